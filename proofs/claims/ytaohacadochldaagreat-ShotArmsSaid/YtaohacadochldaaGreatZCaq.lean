/- A part of the proof of a law of layer 12: aq. -/
import Derived.Test.YtaohacadochldaaGreatZCap
set_option linter.unusedVariables false
set_option linter.unusedSimpArgs false
set_option maxHeartbeats 12800000
set_option maxRecDepth 100000
namespace Go.Proofs.YtaohacadochldaaGreat.B
open Go.Proofs.Tryz
open List renaming getElem?_toArray -> y0q, getElem?_cons_zero -> y1q, getElem?_cons_succ -> y2q, take_succ_cons -> y3q, take_zero -> y4q, drop_succ_cons -> y5q, drop_zero -> y6q
open Go.ChangeShapes Go.WideShapes Go.RowKit Go.Sort
theorem aGI (h m : Int) (p : Nat) (w : World) (a : lK w p h m) :
 Calls prog 304 #[.pointer (some ⟨p, 0, none⟩)] w fun e w' => e = .returned (.tuple #[]) /\ lK w' p h 0 /\ aF (· = p) w w' :=
 (aL3 h m p w a).mono (by rintro e w' ⟨rfl, rfl⟩; exact ⟨rfl, a.set1 0, aG _ _ _ _⟩)
theorem aL1 (h m v : Int) (p : Nat) (w : World) (a : lK w p h m) :
 Calls prog 111 #[.pointer (some ⟨p, 0, none⟩), .int .u32 v] w fun e w' => e = .returned (.tuple #[]) /\ lK w' p v m /\ aF (· = p) w w' :=
 (aPn h m v p w a).mono (by rintro e w' ⟨rfl, rfl⟩; exact ⟨rfl, a.set0 v, aG _ _ _ _⟩)
theorem aCd (h m i : Int) (b : Bool) (p : Nat) (w : World) (a : lK w p h m) (h0 : 0 <= h) (h1 : h < 4294967296) (i0 : 0 <= i) (i1 : i < 32) :
 Calls prog 114 #[.pointer (some ⟨p, 0, none⟩), .int .i64 i, .bool b] w fun e w' => e = .returned (.bool true) /\ lK w' p (put h i 1 (tk b)) m /\ aF (· = p) w w' :=
 (aPq h m i b p w a h0 h1 i0 i1).mono (by rintro e w' ⟨rfl, rfl⟩; exact ⟨rfl, a.set0 _, aG _ _ _ _⟩)
theorem aE4 (B : Bp) (x : Bx) (h : Int) (w : World) (H : bB w B x h) (ok : x.ok B.n B.c) :
 Calls prog 60 #[.agg #[.pointer (some ⟨B.pc, 0, none⟩), .pointer (some ⟨B.pb, 0, none⟩), .pointer (some ⟨B.pd, 0, none⟩), .pointer (some ⟨B.ps, 0, none⟩), .pointer (some ⟨B.pr, 0, none⟩), .pointer (some ⟨B.pl, 0, none⟩)]] w fun e w' => e = .returned (.int .i64 x.due) /\ Below w.heap.size w w' := by
 have H0 := H.below (aE (aH w) (.cells #[.pointer (some ⟨B.pc, 0, none⟩), .pointer (some ⟨B.pb, 0, none⟩), .pointer (some ⟨B.pd, 0, none⟩), .pointer (some ⟨B.ps, 0, none⟩), .pointer (some ⟨B.pr, 0, none⟩), .pointer (some ⟨B.pl, 0, none⟩)] 117))
 have hX := aD w (.cells #[.pointer (some ⟨B.pc, 0, none⟩), .pointer (some ⟨B.pb, 0, none⟩), .pointer (some ⟨B.pd, 0, none⟩), .pointer (some ⟨B.ps, 0, none⟩), .pointer (some ⟨B.pr, 0, none⟩), .pointer (some ⟨B.pl, 0, none⟩)] 117)
 have c2 := aA hX 2
 have c3 := aA hX 3
 simp only [y0q, y1q, y2q] at c2 c3
 have HX := Hd hX
 have HH := Hd H0
 have hbw := Hd (aE (aH w) (.cells #[.pointer (some ⟨B.pc, 0, none⟩), .pointer (some ⟨B.pb, 0, none⟩), .pointer (some ⟨B.pd, 0, none⟩), .pointer (some ⟨B.ps, 0, none⟩), .pointer (some ⟨B.pr, 0, none⟩), .pointer (some ⟨B.pl, 0, none⟩)] 117))
 clear H H0 hX
 unfold Bx.due
 cases hq : x.rs.qs
 . have HQ := Hd hq
   rw [if_neg (by decide)]
   clear hq
   go_enter func60, ntmps60
   go_wp2_with fail
   refine (aDy x.rs B.ps _ HH.out.s).mono ?_
   rw [HQ.out]
   rintro e w1 ⟨rfl, hb1⟩
   have hX1 := aC hb1 HX.out (by simp)
   have c2 := aA hX1 2
   simp only [y0q, y1q, y2q] at c2
   have H1 := (HH.out.below hb1).d
   have hbw1 := tr hbw.out hb1
   clear hX1 hb1
   go_wp2_with fail
   refine (aCR x.wd B.pd _ H1).mono ?_
   rintro e w2 ⟨rfl, rfl⟩
   go_wp2_with fail
   go_ret
   exact ⟨rfl, hbw1⟩
 . have HQ := Hd hq
   rw [if_pos rfl]
   clear hq
   go_enter func60, ntmps60
   go_wp2_with fail
   refine (aDy x.rs B.ps _ HH.out.s).mono ?_
   rw [HQ.out]
   rintro e w1 ⟨rfl, hb1⟩
   have hbw1 := tr hbw.out hb1
   clear hb1
   go_wp2_with fail
   go_ret
   exact ⟨rfl, hbw1⟩
theorem aAg (B : Bp) (x : Bx) (h N : Int) (w : World) (H : bB w B x h) (ok : x.ok B.n B.c) (hf : x.wd.fa = 0) (n0 : 0 <= N) (n1 : N < 18446744073709551616) :
 Calls prog 75 #[.agg #[.pointer (some ⟨B.pc, 0, none⟩), .pointer (some ⟨B.pb, 0, none⟩), .pointer (some ⟨B.pd, 0, none⟩), .pointer (some ⟨B.ps, 0, none⟩), .pointer (some ⟨B.pr, 0, none⟩), .pointer (some ⟨B.pl, 0, none⟩)], .int .u64 N] w fun e w' => e = .returned (.int .u64 (x.wd.ran N)) /\ bB w' B (x.later N) h /\ aF B.dvs w w' := by
 have hmC : ∀ (n : Nat) (w : World), (method (n + 1) 110 (.pointer (some ⟨B.pc, 0, none⟩)) "Tick").run prog w = .ok (270, .pointer (some ⟨B.pc, 0, none⟩)) w := fun _ _ => by kernel_rfl
 have hmB : ∀ (n : Nat) (w : World), (method (n + 1) 111 (.pointer (some ⟨B.pb, 0, none⟩)) "Tick").run prog w = .ok (278, .pointer (some ⟨B.pb, 0, none⟩)) w := fun _ _ => by kernel_rfl
 have hmR : ∀ (n : Nat) (w : World), (method (n + 1) 114 (.pointer (some ⟨B.pr, 0, none⟩)) "Tick").run prog w = .ok (297, .pointer (some ⟨B.pr, 0, none⟩)) w := fun _ _ => by kernel_rfl
 have H0 := H.below (aE (aH w) (.cells #[.pointer (some ⟨B.pc, 0, none⟩), .pointer (some ⟨B.pb, 0, none⟩), .pointer (some ⟨B.pd, 0, none⟩), .pointer (some ⟨B.ps, 0, none⟩), .pointer (some ⟨B.pr, 0, none⟩), .pointer (some ⟨B.pl, 0, none⟩)] 117))
 have hX := aD w (.cells #[.pointer (some ⟨B.pc, 0, none⟩), .pointer (some ⟨B.pb, 0, none⟩), .pointer (some ⟨B.pd, 0, none⟩), .pointer (some ⟨B.ps, 0, none⟩), .pointer (some ⟨B.pr, 0, none⟩), .pointer (some ⟨B.pl, 0, none⟩)] 117)
 have c2 := aA hX 2
 simp only [y0q, y1q, y2q] at c2
 have hb := gP ok.wd hf n0
 obtain ⟨k0, k1⟩ := hb
 have k2 : x.wd.ran N < 18446744073709551616 := by omega
 have hne : ∀ k, B.dvs k -> k < w.heap.size := fun k hk => H.lt hk
 have HX := Hd hX
 have HH := Hd H0
 have HOK := Hd ok
 have HNE := Hd hne
 have hbw := Hd (aF.ofBelow (S := B.dvs) (aE (aH w) (.cells #[.pointer (some ⟨B.pc, 0, none⟩), .pointer (some ⟨B.pb, 0, none⟩), .pointer (some ⟨B.pd, 0, none⟩), .pointer (some ⟨B.ps, 0, none⟩), .pointer (some ⟨B.pr, 0, none⟩), .pointer (some ⟨B.pl, 0, none⟩)] 117)))
 unfold Bx.later Bx.on
 generalize hr : x.wd.ran N = k at *
 have HR := Hd hr
 clear H H0 hX hne ok hf hr
 go_enter func75, ntmps75
 go_wp2_with fail
 refine (aN2 x.wd N B.pd _ HOK.out.wd HH.out.d n0 n1).mono ?_
 rw [HR.out]
 rintro e w1 ⟨rfl, a1, ho1⟩
 have H1 := HH.out.turnD a1 ho1
 have hX1 := ho1.at HX.out (fun e => absurd (HNE.out B.pd (.inr (.inr (.inr (.inr (.inl rfl)))))) (by omega))
 have hbw1 := hbw.out.trans (aIt ho1)
 have c0 := aA hX1 0
 have c1 := aA hX1 1
 have c4 := aA hX1 4
 simp only [y0q, y1q, y2q] at c0 c1 c4
 have HH1 := Hd H1
 have HX1 := Hd hX1
 have HB1 := Hd hbw1
 clear H1 hX1 hbw1 a1 ho1
 go_upto_region 3 with (fail)
 have H2 := HH1.out.below (aE (aH w1) (.cells #[.iface 110 (.pointer (some ⟨B.pc, 0, none⟩)), .iface 111 (.pointer (some ⟨B.pb, 0, none⟩)), .iface 114 (.pointer (some ⟨B.pr, 0, none⟩))] 216))
 have hR := aD w1 (.cells #[.iface 110 (.pointer (some ⟨B.pc, 0, none⟩)), .iface 111 (.pointer (some ⟨B.pb, 0, none⟩)), .iface 114 (.pointer (some ⟨B.pr, 0, none⟩))] 216)
 have hB2 := HB1.out.trans (aF.ofAlloc w1 (.cells #[.iface 110 (.pointer (some ⟨B.pc, 0, none⟩)), .iface 111 (.pointer (some ⟨B.pb, 0, none⟩)), .iface 114 (.pointer (some ⟨B.pr, 0, none⟩))] 216))
 have hgd : ¬ B.dvs w1.heap.size := H2.no hR (by decide)
 generalize w1.alloc (.cells #[.iface 110 (.pointer (some ⟨B.pc, 0, none⟩)), .iface 111 (.pointer (some ⟨B.pb, 0, none⟩)), .iface 114 (.pointer (some ⟨B.pr, 0, none⟩))] 216) = W at *
 generalize w1.heap.size = g at *
 have r0 := aA hR 0
 have r1 := aA hR 1
 have r2 := aA hR 2
 simp only [y0q, y1q, y2q] at r0 r1 r2
 have HH2 := Hd H2
 have HRW := Hd hR
 have HGD := Hd hgd
 have HB2 := Hd hB2
 clear H2 hR hgd hB2 HH1 HX1 HB1 c0 c1 c4
 refine wp_loop_rounds 4 ?_
 rw [rounds_succ]
 go_wp2_with fail
 refine (aNs k _ _ _ _ B.pc B.mc _ HH2.out.c k0 k2).mono ?_
 rintro e w10 ⟨rfl, a0, ho0⟩
 have H0 := HH2.out.turnC a0 ho0
 have hR0 := (aGt ho0).at HRW.out HGD.out
 have hB0 := HB2.out.trans (aGt ho0)
 clear HH2 HRW HB2 r0 r1 r2 a0 ho0
 have r0 := aA hR0 0
 have r1 := aA hR0 1
 have r2 := aA hR0 2
 simp only [y0q, y1q, y2q] at r0 r1 r2
 have HH2 := Hd H0
 have HRW := Hd hR0
 have HB2 := Hd hB0
 clear H0 hR0 hB0
 go_wp2_with fail
 rw [rounds_succ]
 go_wp2_with fail
 refine (aNk HH2.out.b k k0 k2).mono ?_
 rintro e w11 ⟨rfl, a1, ho1⟩
 have H1 := HH2.out.turnB a1 ho1
 have hR1 := (aGs ho1).at HRW.out HGD.out
 have hB1 := HB2.out.trans (aGs ho1)
 clear HH2 HRW HB2 r0 r1 r2 a1 ho1
 have r0 := aA hR1 0
 have r1 := aA hR1 1
 have r2 := aA hR1 2
 simp only [y0q, y1q, y2q] at r0 r1 r2
 have HH2 := Hd H1
 have HRW := Hd hR1
 have HB2 := Hd hB1
 clear H1 hR1 hB1
 go_wp2_with fail
 rw [rounds_succ]
 go_wp2_with fail
 refine (aN7 x.rk k B.pr _ HOK.out.rk HH2.out.r k0 k2).mono ?_
 rintro e w12 ⟨rfl, a2, ho2⟩
 have H2 := HH2.out.turnR a2 ho2
 have hR2 := (aGu ho2).at HRW.out HGD.out
 have hB2 := HB2.out.trans (aGu ho2)
 clear HH2 HRW HB2 r0 r1 r2 a2 ho2
 have r0 := aA hR2 0
 have r1 := aA hR2 1
 have r2 := aA hR2 2
 simp only [y0q, y1q, y2q] at r0 r1 r2
 have HH2 := Hd H2
 have HRW := Hd hR2
 have HB2 := Hd hB2
 clear H2 hR2 hB2
 go_wp2_with fail
 rw [rounds_succ]
 go_wp2_with fail
 go_ret
 exact ⟨rfl, HH2.out, HB2.out⟩
theorem aNJ (B : Bp) (x : Bx) (h cause : Int) (w : World) (H : bB w B x h) (ok : x.ok B.n B.c) :
 Calls prog 110 #[.agg #[.pointer (some ⟨B.pc, 0, none⟩), .pointer (some ⟨B.pb, 0, none⟩), .pointer (some ⟨B.pd, 0, none⟩), .pointer (some ⟨B.ps, 0, none⟩), .pointer (some ⟨B.pr, 0, none⟩), .pointer (some ⟨B.pl, 0, none⟩)], .int .i64 cause] w fun e w' => e = .returned (.tuple #[]) /\ bB w' B (x.rst cause) h /\ aF B.dvs w w' := by
 have hmC : ∀ (n : Nat) (w : World), (method (n + 1) 110 (.pointer (some ⟨B.pc, 0, none⟩)) "Reset").run prog w = .ok (176, .pointer (some ⟨B.pc, 0, none⟩)) w := fun _ _ => by kernel_rfl
 have hmB : ∀ (n : Nat) (w : World), (method (n + 1) 111 (.pointer (some ⟨B.pb, 0, none⟩)) "Reset").run prog w = .ok (276, .pointer (some ⟨B.pb, 0, none⟩)) w := fun _ _ => by kernel_rfl
 have hmD : ∀ (n : Nat) (w : World), (method (n + 1) 112 (.pointer (some ⟨B.pd, 0, none⟩)) "Reset").run prog w = .ok (286, .pointer (some ⟨B.pd, 0, none⟩)) w := fun _ _ => by kernel_rfl
 have hmR : ∀ (n : Nat) (w : World), (method (n + 1) 114 (.pointer (some ⟨B.pr, 0, none⟩)) "Reset").run prog w = .ok (295, .pointer (some ⟨B.pr, 0, none⟩)) w := fun _ _ => by kernel_rfl
 have hmL : ∀ (n : Nat) (w : World), (method (n + 1) 115 (.pointer (some ⟨B.pl, 0, none⟩)) "Reset").run prog w = .ok (304, .pointer (some ⟨B.pl, 0, none⟩)) w := fun _ _ => by kernel_rfl
 have H0 := H.below (aE (aH w) (.cells #[.pointer (some ⟨B.pc, 0, none⟩), .pointer (some ⟨B.pb, 0, none⟩), .pointer (some ⟨B.pd, 0, none⟩), .pointer (some ⟨B.ps, 0, none⟩), .pointer (some ⟨B.pr, 0, none⟩), .pointer (some ⟨B.pl, 0, none⟩)] 117))
 have hX := aD w (.cells #[.pointer (some ⟨B.pc, 0, none⟩), .pointer (some ⟨B.pb, 0, none⟩), .pointer (some ⟨B.pd, 0, none⟩), .pointer (some ⟨B.ps, 0, none⟩), .pointer (some ⟨B.pr, 0, none⟩), .pointer (some ⟨B.pl, 0, none⟩)] 117)
 have c3 := aA hX 3
 simp only [y0q, y1q, y2q] at c3
 have hne : ∀ k, B.dvs k -> k < w.heap.size := fun k hk => H.lt hk
 have HX := Hd hX
 have HH := Hd H0
 have HOK := Hd ok
 have HNE := Hd hne
 have hbw := Hd (aF.ofBelow (S := B.dvs) (aE (aH w) (.cells #[.pointer (some ⟨B.pc, 0, none⟩), .pointer (some ⟨B.pb, 0, none⟩), .pointer (some ⟨B.pd, 0, none⟩), .pointer (some ⟨B.ps, 0, none⟩), .pointer (some ⟨B.pr, 0, none⟩), .pointer (some ⟨B.pl, 0, none⟩)] 117)))
 clear H H0 hX hne ok
 go_enter func110, ntmps110
 go_wp2_with fail
 refine (aJD x.rs cause B.ps _ HOK.out.rs HH.out.s).mono ?_
 rintro e w1 ⟨rfl, a1, ho1⟩
 have H1 := HH.out.turnS a1 ho1
 have hX1 := ho1.at HX.out (fun e => absurd (HNE.out B.ps (.inr (.inr (.inr (.inr (.inr (.inl rfl))))))) (by omega))
 have hbw1 := hbw.out.trans (offS ho1)
 have c0 := aA hX1 0
 have c1 := aA hX1 1
 have c2 := aA hX1 2
 have c4 := aA hX1 4
 have c5 := aA hX1 5
 simp only [y0q, y1q, y2q] at c0 c1 c2 c4 c5
 have HH1 := Hd H1
 have HX1 := Hd hX1
 have HB1 := Hd hbw1
 clear H1 hX1 hbw1 a1 ho1
 go_upto_region 3 with (fail)
 have H2 := HH1.out.below (aE (aH w1) (.cells #[.iface 110 (.pointer (some ⟨B.pc, 0, none⟩)), .iface 111 (.pointer (some ⟨B.pb, 0, none⟩)), .iface 112 (.pointer (some ⟨B.pd, 0, none⟩)), .iface 114 (.pointer (some ⟨B.pr, 0, none⟩)), .iface 115 (.pointer (some ⟨B.pl, 0, none⟩))] 275))
 have hR := aD w1 (.cells #[.iface 110 (.pointer (some ⟨B.pc, 0, none⟩)), .iface 111 (.pointer (some ⟨B.pb, 0, none⟩)), .iface 112 (.pointer (some ⟨B.pd, 0, none⟩)), .iface 114 (.pointer (some ⟨B.pr, 0, none⟩)), .iface 115 (.pointer (some ⟨B.pl, 0, none⟩))] 275)
 have hB2 := HB1.out.trans (aF.ofAlloc w1 (.cells #[.iface 110 (.pointer (some ⟨B.pc, 0, none⟩)), .iface 111 (.pointer (some ⟨B.pb, 0, none⟩)), .iface 112 (.pointer (some ⟨B.pd, 0, none⟩)), .iface 114 (.pointer (some ⟨B.pr, 0, none⟩)), .iface 115 (.pointer (some ⟨B.pl, 0, none⟩))] 275))
 have hgd : ¬ B.dvs w1.heap.size := H2.no hR (by decide)
 generalize w1.alloc (.cells #[.iface 110 (.pointer (some ⟨B.pc, 0, none⟩)), .iface 111 (.pointer (some ⟨B.pb, 0, none⟩)), .iface 112 (.pointer (some ⟨B.pd, 0, none⟩)), .iface 114 (.pointer (some ⟨B.pr, 0, none⟩)), .iface 115 (.pointer (some ⟨B.pl, 0, none⟩))] 275) = W at *
 generalize w1.heap.size = g at *
 have r0 := aA hR 0
 have r1 := aA hR 1
 have r2 := aA hR 2
 have r3 := aA hR 3
 have r4 := aA hR 4
 simp only [y0q, y1q, y2q] at r0 r1 r2 r3 r4
 have HH2 := Hd H2
 have HRW := Hd hR
 have HGD := Hd hgd
 have HB2 := Hd hB2
 clear H2 hR hgd hB2 HH1 HX1 HB1 c0 c1 c2 c4 c5
 refine wp_loop_rounds 6 ?_
 rw [rounds_succ]
 go_wp2_with fail
 refine (aDQ _ _ _ _ B.pc B.mc _ HH2.out.c).mono ?_
 rintro e w10 ⟨rfl, a0, ho0⟩
 have H0 := HH2.out.turnC a0 ho0
 have hR0 := (aGt ho0).at HRW.out HGD.out
 have hB0 := HB2.out.trans (aGt ho0)
 clear HH2 HRW HB2 r0 r1 r2 r3 r4 a0 ho0
 have r0 := aA hR0 0
 have r1 := aA hR0 1
 have r2 := aA hR0 2
 have r3 := aA hR0 3
 have r4 := aA hR0 4
 simp only [y0q, y1q, y2q] at r0 r1 r2 r3 r4
 have HH2 := Hd H0
 have HRW := Hd hR0
 have HB2 := Hd hB0
 clear H0 hR0 hB0
 go_wp2_with fail
 rw [rounds_succ]
 go_wp2_with fail
 refine (aK3 HH2.out.b).mono ?_
 rintro e w11 ⟨rfl, a1, ho1⟩
 have H1 := HH2.out.turnB a1 ho1
 have hR1 := (aGs ho1).at HRW.out HGD.out
 have hB1 := HB2.out.trans (aGs ho1)
 clear HH2 HRW HB2 r0 r1 r2 r3 r4 a1 ho1
 have r0 := aA hR1 0
 have r1 := aA hR1 1
 have r2 := aA hR1 2
 have r3 := aA hR1 3
 have r4 := aA hR1 4
 simp only [y0q, y1q, y2q] at r0 r1 r2 r3 r4
 have HH2 := Hd H1
 have HRW := Hd hR1
 have HB2 := Hd hB1
 clear H1 hR1 hB1
 go_wp2_with fail
 rw [rounds_succ]
 go_wp2_with fail
 refine (aLS _ B.pd _ HH2.out.d).mono ?_
 rintro e w12 ⟨rfl, a2, ho2⟩
 have H2 := HH2.out.turnD a2 ho2
 have hR2 := (aIt ho2).at HRW.out HGD.out
 have hB2 := HB2.out.trans (aIt ho2)
 clear HH2 HRW HB2 r0 r1 r2 r3 r4 a2 ho2
 have r0 := aA hR2 0
 have r1 := aA hR2 1
 have r2 := aA hR2 2
 have r3 := aA hR2 3
 have r4 := aA hR2 4
 simp only [y0q, y1q, y2q] at r0 r1 r2 r3 r4
 have HH2 := Hd H2
 have HRW := Hd hR2
 have HB2 := Hd hB2
 clear H2 hR2 hB2
 go_wp2_with fail
 rw [rounds_succ]
 go_wp2_with fail
 refine (aLd _ B.pr _ HH2.out.r).mono ?_
 rintro e w13 ⟨rfl, a3, ho3⟩
 have H3 := HH2.out.turnR a3 ho3
 have hR3 := (aGu ho3).at HRW.out HGD.out
 have hB3 := HB2.out.trans (aGu ho3)
 clear HH2 HRW HB2 r0 r1 r2 r3 r4 a3 ho3
 have r0 := aA hR3 0
 have r1 := aA hR3 1
 have r2 := aA hR3 2
 have r3 := aA hR3 3
 have r4 := aA hR3 4
 simp only [y0q, y1q, y2q] at r0 r1 r2 r3 r4
 have HH2 := Hd H3
 have HRW := Hd hR3
 have HB2 := Hd hB3
 clear H3 hR3 hB3
 go_wp2_with fail
 rw [rounds_succ]
 go_wp2_with fail
 refine (aGI _ _ B.pl _ HH2.out.l).mono ?_
 rintro e w14 ⟨rfl, a4, ho4⟩
 have H4 := HH2.out.turnL a4 ho4
 have hR4 := (uS ho4).at HRW.out HGD.out
 have hB4 := HB2.out.trans (uS ho4)
 clear HH2 HRW HB2 r0 r1 r2 r3 r4 a4 ho4
 have r0 := aA hR4 0
 have r1 := aA hR4 1
 have r2 := aA hR4 2
 have r3 := aA hR4 3
 have r4 := aA hR4 4
 simp only [y0q, y1q, y2q] at r0 r1 r2 r3 r4
 have HH2 := Hd H4
 have HRW := Hd hR4
 have HB2 := Hd hB4
 clear H4 hR4 hB4
 go_wp2_with fail
 rw [rounds_succ]
 go_wp2_with fail
 go_end0
 exact ⟨rfl, ⟨HH2.out.c, HH2.out.b, HH2.out.d, HH2.out.s, HH2.out.r, HH2.out.l⟩, HB2.out⟩
theorem wP {P : Prop} (h : P := by
 unfold oR dT; rw [decide_eq_true (show 0 <= (k : Int) /\ (k : Int) < (n : Int) by omega), Bool.true_and, Int.toNat_natCast]
 ) : P := h
theorem aOR (t : Int) (D : Nat -> Int) {n k : Nat} (h : k < n) : decide (D k <= t) = oR t n D (k : Int) := by
 exact wP
theorem aO2 (S : Nat -> Int) {n k : Nat} (h : k < n) : (S k == 1) = cSf n S (k : Int) := by
 unfold cSf dT; rw [decide_eq_true (show 0 <= (k : Int) /\ (k : Int) < (n : Int) by omega), Bool.true_and, Int.toNat_natCast]
theorem zD (B : Bp) (x : Bx) (h : Int) (w : World) (H : bB w B x h) (ok : x.ok B.n B.c) :
 Calls prog 62 #[.agg #[.pointer (some ⟨B.pc, 0, none⟩), .pointer (some ⟨B.pb, 0, none⟩), .pointer (some ⟨B.pd, 0, none⟩), .pointer (some ⟨B.ps, 0, none⟩), .pointer (some ⟨B.pr, 0, none⟩), .pointer (some ⟨B.pl, 0, none⟩)]] w fun e w' => e = .returned (.tuple #[]) /\ bB w' B x (wires B.n B.c x) /\ aF B.dvs w w' := by
 have H0 := H.below (aE (aH w) (.cells #[.pointer (some ⟨B.pc, 0, none⟩), .pointer (some ⟨B.pb, 0, none⟩), .pointer (some ⟨B.pd, 0, none⟩), .pointer (some ⟨B.ps, 0, none⟩), .pointer (some ⟨B.pr, 0, none⟩), .pointer (some ⟨B.pl, 0, none⟩)] 117))
 have hX := aD w (.cells #[.pointer (some ⟨B.pc, 0, none⟩), .pointer (some ⟨B.pb, 0, none⟩), .pointer (some ⟨B.pd, 0, none⟩), .pointer (some ⟨B.ps, 0, none⟩), .pointer (some ⟨B.pr, 0, none⟩), .pointer (some ⟨B.pl, 0, none⟩)] 117)
 have hne : ∀ k, B.dvs k -> k < w.heap.size := fun k hk => H.lt hk
 have n8 := ok.n8
 have ob := gW (fun i => (x.tm i).st && (x.tm i).iq) B.c (by have := ok.c8; omega)
 obtain ⟨o0, o1⟩ := ob
 have hbw := aF.ofBelow (S := B.dvs) (aE (aH w) (.cells #[.pointer (some ⟨B.pc, 0, none⟩), .pointer (some ⟨B.pb, 0, none⟩), .pointer (some ⟨B.pd, 0, none⟩), .pointer (some ⟨B.ps, 0, none⟩), .pointer (some ⟨B.pr, 0, none⟩), .pointer (some ⟨B.pl, 0, none⟩)] 117))
 have hgd : ¬ B.dvs w.heap.size := fun hk => absurd (hne _ hk) (by omega)
 have HLN := Hd (fun (u : World) (A : bB u B x h) => aFK A.b)
 have HLI := Hd (fun (u : World) (q : Int) (A : bB u B x q) => aKD x.rk B.pr u A.r)
 have HP8 := Hd (fun u => Put 0 8 8 (ob (fun i => (x.tm i).st && (x.tm i).iq) B.c) u (by decide) (by decide) (by decide) (by decide) o0 o1)
 have HWS := Hd (aBs B.c x ok.c8)
 have HPB := Hd (iZ 0 8 8 (ob (fun i => (x.tm i).st && (x.tm i).iq) B.c) (by decide) (by decide))
 have c1 := aA hX 1
 have c5 := aA hX 5
 simp only [y0q, y1q, y2q] at c1 c5
 have hg := bC
 have hf := dE
 have hl : w.heap.size < (w.alloc (.cells #[.pointer (some ⟨B.pc, 0, none⟩), .pointer (some ⟨B.pb, 0, none⟩), .pointer (some ⟨B.pd, 0, none⟩), .pointer (some ⟨B.ps, 0, none⟩), .pointer (some ⟨B.pr, 0, none⟩), .pointer (some ⟨B.pl, 0, none⟩)] 117)).heap.size := by simp
 have HX := Hd hX
 have HH := Hd H0
 have HOK := Hd ok
 have HGD := Hd hgd
 have HB := Hd hbw
 clear H H0 hX hne ok hgd hbw
 go_enter func62, ntmps62
 go_wp2_with fail
 generalize w.alloc (.cells #[.pointer (some ⟨B.pc, 0, none⟩), .pointer (some ⟨B.pb, 0, none⟩), .pointer (some ⟨B.pd, 0, none⟩), .pointer (some ⟨B.ps, 0, none⟩), .pointer (some ⟨B.pr, 0, none⟩), .pointer (some ⟨B.pl, 0, none⟩)] 117) = W at *
 generalize w.heap.size = p at *
 generalize hv : ob (fun i => (x.tm i).st && (x.tm i).iq) B.c = v at *
 clear hv
 refine aM 6 (by kernel_rfl) (by kernel_rfl) ?_
 simp only [y3q, y4q, y5q, y6q]
 repeat (go_big_quiet_step (first
  | (go_at_call 113; exact Calls.regrown_of (HLN.out _ (HH.out.below (below_regrown W _ _))))
  | (go_at_call 112; exact Calls.regrown_of ((HP8.out _).mono fun e w' h => ⟨h.1, h.2 ▸ aH _⟩))))
 refine wpQuiet_nil ?_
 intro _ hw'
 obtain ⟨⟨dq, osq⟩, hw''⟩ := hw'
 subst hw''
 have H1 := HH.out.below (below_regrown W dq osq)
 have hX1 := aC (below_regrown W dq osq) HX.out hl
 have hB1 := HB.out.trans (aF.ofBelow (below_regrown W dq osq))
 have hl1 := lt_of_block hX1
 generalize grow (redrawn W dq) osq = W1 at *
 clear HH HX HB hl c1 c5
 go_wp2_with fail
 refine (aL1 _ _ (put 0 8 8 v) B.pl W1 H1.l).mono ?_
 rintro e w1 ⟨rfl, a1, ho1⟩
 have H2 := H1.turnL a1 ho1
 have hX2 := (uS ho1).at hX1 HGD.out
 have hB2 := hB1.trans (uS ho1)
 have hl := lt_of_block hX2
 clear H1 hX1 hB1 hl1 a1 ho1 W1
 have c4 := aA hX2 4
 have c5 := aA hX2 5
 simp only [y0q, y1q, y2q] at c4 c5
 have HX := Hd hX2
 have HH := Hd H2
 have HB := Hd hB2
 clear H2 hX2 hB2
 go_wp2_with fail
 refine aM 5 (by kernel_rfl) (by kernel_rfl) ?_
 simp only [y3q, y4q, y5q, y6q]
 repeat (go_big_quiet_step (first
  | (go_at_call 115; exact Calls.regrown_of (HLI.out _ _ (HH.out.below (below_regrown w1 _ _))))))
 refine wpQuiet_nil ?_
 intro _ hw'
 obtain ⟨⟨dq, osq⟩, hw''⟩ := hw'
 subst hw''
 have H1 := HH.out.below (below_regrown w1 dq osq)
 have hX1 := aC (below_regrown w1 dq osq) HX.out hl
 have hB1 := HB.out.trans (aF.ofBelow (below_regrown w1 dq osq))
 have hl1 := lt_of_block hX1
 generalize grow (redrawn w1 dq) osq = W1 at *
 clear HH HX HB hl c4 c5
 go_wp2_with fail
 refine (aCd _ _ 16 x.rk.st B.pl W1 H1.l HPB.out.1 HPB.out.2 (by decide) (by decide)).mono ?_
 rintro e w2 ⟨rfl, a1, ho1⟩
 have H2 := H1.turnL a1 ho1
 have hX2 := (uS ho1).at hX1 HGD.out
 have hB2 := hB1.trans (uS ho1)
 have hl := lt_of_block hX2
 clear H1 hX1 hB1 hl1 a1 ho1 W1
 have c0 := aA hX2 0
 simp only [y0q, y1q, y2q] at c0
 have HX := Hd hX2
 have HH := Hd H2
 have HB := Hd hB2
 clear H2 hX2 hB2
 go_wp2_with fail
 have HC := Hd (fun (u : World) (q : Int) (A : bB u B x q) => aCO _ _ _ _ _ _ u A.c)
 refine (HC.out _ _ HH.out).mono ?_
 rintro e w3 ⟨rfl, rfl⟩
 have H3 : bB w2 B x (wires 0 B.c x) := by have := HH.out; rw [HWS.out _ rfl] at this; exact this
 have HH := Hd H3
 have HLC := Hd (fun (u : World) (j : Nat) (q : Int) (A : bB u B x q) => aJ6 x.ti (j : Int) B.n x.D x.S B.pc B.mc u A.c)
 have HSO := Hd (fun (u : World) (j : Nat) (q : Int) (A : bB u B x q) => aNr x.ti (j : Int) B.n x.D x.S B.pc B.mc u A.c)
 clear H3 HWS HPB HLI HP8 HC c0
 go_wp2_with fail
 go_loopw [19] (fun i wr => ∃ k : Nat, k <= B.n /\ i = .int .i64 k /\ bB wr B x (wires k B.c x) /\ wr.heap[p]? = some (.cells #[.pointer (some ⟨B.pc, 0, none⟩), .pointer (some ⟨B.pb, 0, none⟩), .pointer (some ⟨B.pd, 0, none⟩), .pointer (some ⟨B.ps, 0, none⟩), .pointer (some ⟨B.pr, 0, none⟩), .pointer (some ⟨B.pl, 0, none⟩)] 117 (0, 0)) /\ aF B.dvs w wr) (fun i wr => B.n - (intOf i).toNat)
 case atStart => exact ⟨0, by omega, rfl, HH.out, HX.out, HB.out⟩
 case round =>
  obtain ⟨k, hk, rfl, H, hX, hB⟩ := hrel
  by_cases hlt : k < B.n
  . have hk8 : k < 8 := by omega
    have hc0 : (0 : Int) + (k : Int) = k := by omega
    have HWN := Hd (aDH k B.c x hk8 (oR x.ti B.n x.D k) (cSf B.n x.S k) (aOR x.ti x.D hlt) (aO2 x.S hlt))
    have HWB := Hd (dL k B.c x)
    have HPB := Hd (iZ (wires k B.c x) (k : Int) 1 (tk (oR x.ti B.n x.D k)) (dL k B.c x).1 (dL k B.c x).2)
    have c0 := aA hX 0
    have c5 := aA hX 5
    simp only [y0q, y1q, y2q] at c0 c5
    have hl := lt_of_block hX
    have HH := Hd H
    have HX := Hd hX
    have HB := Hd hB
    clear H hX hB
    go_wp2_with fail
    refine aM 8 (by kernel_rfl) (by kernel_rfl) ?_
    simp only [y3q, y4q, y5q, y6q]
    repeat (go_big_quiet_step (first
     | (go_at_call 83; exact Calls.regrown_of (HLC.out _ k _ (HH.out.below (below_regrown wr _ _))))))
    refine wpQuiet_nil ?_
    intro _ hw'
    obtain ⟨⟨dq, osq⟩, hw''⟩ := hw'
    subst hw''
    have H1 := HH.out.below (below_regrown wr dq osq)
    have hX1 := aC (below_regrown wr dq osq) HX.out hl
    have hB1 := HB.out.trans (aF.ofBelow (below_regrown wr dq osq))
    have hl1 := lt_of_block hX1
    generalize grow (redrawn wr dq) osq = W1 at *
    clear HH HX HB hl c0 c5
    go_wp2_with fail
    refine (aCd _ _ (k : Int) (oR x.ti B.n x.D k) B.pl W1 H1.l HWB.out.1 HWB.out.2 (by omega) (by omega)).mono ?_
    rintro e w4 ⟨rfl, a1, ho1⟩
    have H2 := H1.turnL a1 ho1
    have hX2 := (uS ho1).at hX1 HGD.out
    have hB2 := hB1.trans (uS ho1)
    have hl := lt_of_block hX2
    clear H1 hX1 hB1 hl1 a1 ho1 W1
    have c0 := aA hX2 0
    have c5 := aA hX2 5
    simp only [y0q, y1q, y2q] at c0 c5
    have HX := Hd hX2
    have HH := Hd H2
    have HB := Hd hB2
    clear H2 hX2 hB2
    go_wp2_with fail
    refine aM 8 (by kernel_rfl) (by kernel_rfl) ?_
    simp only [y3q, y4q, y5q, y6q]
    repeat (go_big_quiet_step (first
     | (go_at_call 117; exact Calls.regrown_of (HSO.out _ k _ (HH.out.below (below_regrown w4 _ _))))))
    refine wpQuiet_nil ?_
    intro _ hw'
    obtain ⟨⟨dq, osq⟩, hw''⟩ := hw'
    subst hw''
    have H1 := HH.out.below (below_regrown w4 dq osq)
    have hX1 := aC (below_regrown w4 dq osq) HX.out hl
    have hB1 := HB.out.trans (aF.ofBelow (below_regrown w4 dq osq))
    have hl1 := lt_of_block hX1
    generalize grow (redrawn w4 dq) osq = W1 at *
    clear HH HX HB hl c0 c5
    go_wp2_with fail
    refine (aCd _ _ (24 + (k : Int)) (cSf B.n x.S k) B.pl W1 H1.l HPB.out.1 HPB.out.2 (by omega) (by omega)).mono ?_
    rintro e w5 ⟨rfl, a1, ho1⟩
    have H2 := H1.turnL a1 ho1
    have hX2 := (uS ho1).at hX1 HGD.out
    have hB2 := hB1.trans (uS ho1)
    have hl := lt_of_block hX2
    clear H1 hX1 hB1 hl1 a1 ho1 W1
    have HX := Hd hX2
    have HH := Hd H2
    have HB := Hd hB2
    clear H2 hX2 hB2
    go_wp2_with fail
    have H5 : bB w5 B x (wires (k + 1) B.c x) := by
     have := HH.out
     rw [<- HWN.out, show ((24 + k : Nat) : Int) = 24 + (k : Int) by omega]; exact this
    go_roundw
    case rel => exact ⟨k + 1, by omega, by go_num, H5, HX.out, HB.out⟩
    case measure => simp [intOf]; omega
  . obtain rfl : k = B.n := by omega
    have HH := Hd H
    have HB := Hd hB
    clear H hX hB
    go_wp2_with fail
    go_end0
    exact ⟨rfl, HH.out, HB.out⟩
end Go.Proofs.YtaohacadochldaaGreat.B
