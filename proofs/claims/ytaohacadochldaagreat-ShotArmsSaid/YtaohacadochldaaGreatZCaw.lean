/- A part of the proof of a law of layer 12: aw. -/
import Derived.Test.YtaohacadochldaaGreatZCav
set_option linter.unusedVariables false
set_option linter.unusedSimpArgs false
set_option maxHeartbeats 12800000
set_option maxRecDepth 100000
namespace Go.Proofs.YtaohacadochldaaGreat.B
open Go.Proofs.Tryz
open List renaming getElem?_toArray -> y0q, getElem?_cons_zero -> y1q, getElem?_cons_succ -> y2q
open Go.ChangeShapes Go.WideShapes Go.RowKit Go.Sort
def Bp.new (s : Nat) (B : Bp) : Prop := ∀ k, B.all k -> s <= k
def aIC (n c : Nat) (d : Int) (w : World) (e : Ending) (w' : World) : Prop := ∃ B : Bp, e = .returned (.tuple #[.pointer (some ⟨B.b, 0, none⟩), .int .i64 0]) /\ aZ w' B (qQ d) /\ Below w.heap.size w w' /\ B.new w.heap.size /\ B.n = n /\ B.c = c /\ B.div = d
theorem aGy {s : Nat} {B : Bp} {b p bm : Nat} {rv : Value} {R : List (Int × Int)} {ks : List Int} {pv : Int -> Value} (hf : B.fresh s) (hb : s <= b) (hu : ∀ k, eK p bm rv ks pv k -> s <= k) : (B.on b p bm rv R ks pv).new s := by
 rintro k ((rfl | hk | hk) | rfl | hk)
 . exact hb
 . exact hf.1 k hk
 . cases hk
 . exact hf.2
 . exact hu k hk
theorem aA2 {s t : Nat} {B : Bp} (h : B.fresh t) (hs : s <= t) : B.fresh s := ⟨fun k hk => Nat.le_trans hs (h.1 k hk), Nat.le_trans hs h.2⟩
theorem aNm (n c : Nat) (d : Int) (w : World) (n0 : 1 <= n) (n8 : n <= 8) (q0 : 1 <= c) (q8 : c <= 8) (d0 : 1 <= d) (d1 : d < 4294967296) :
 Calls prog 25 #[.agg #[.int .i64 n, .int .i64 c, .int .u32 d]] w (aIC n c d w) := by
 have hC := aD w (.cells #[.int .i64 n, .int .i64 c, .int .u32 d] 75)
 have hb := aE (aH w) (.cells #[.int .i64 n, .int .i64 c, .int .u32 d] 75)
 have hl0 := lt_of_block hC
 have k0 := aA hC 0
 have k1 := aA hC 1
 have k2 := aA hC 2
 simp only [y0q, y1q, y2q] at k0 k1 k2
 go_enter func25, ntmps25
 go_upto_region 1 with (fail)
 generalize w.alloc (.cells #[.int .i64 n, .int .i64 c, .int .u32 d] 75) = W at *
 have HC := Hd hC
 have HB := Hd hb
 clear hC hb
 go_wp2_with fail
 refine (aPF n c d W n0 n8 q0 q8 d0 d1).mono ?_
 rintro e w1 ⟨B, rfl, D1, b1, hf, rfl, rfl, rfl⟩
 have hC1 := aC b1 HC.out hl0
 have HF := Hd (aA2 hf HB.out.size)
 have HB1 := Hd (tr HB.out b1)
 have HD := Hd D1
 have hlc := lt_of_block hC1
 clear b1 hf D1 k0 k1 k2 hl0 HB HC
 have HC1 := Hd hC1
 clear hC1
 go_upto_region 2 with (fail)
 have ha := aE (aH w1) (.cells #[.pointer (some ⟨B.pc, 0, none⟩), .pointer (some ⟨B.pb, 0, none⟩), .pointer (some ⟨B.pd, 0, none⟩), .pointer (some ⟨B.ps, 0, none⟩), .pointer (some ⟨B.pr, 0, none⟩), .pointer (some ⟨B.pl, 0, none⟩)] 117)
 have hD2 := aD w1 (.cells #[.pointer (some ⟨B.pc, 0, none⟩), .pointer (some ⟨B.pb, 0, none⟩), .pointer (some ⟨B.pd, 0, none⟩), .pointer (some ⟨B.ps, 0, none⟩), .pointer (some ⟨B.pr, 0, none⟩), .pointer (some ⟨B.pl, 0, none⟩)] 117)
 have hC2 := aC ha HC1.out hlc
 have HD2 := Hd (HD.out.below ha)
 have HB2 := Hd (tr HB1.out ha)
 generalize (w1.alloc (.cells #[.pointer (some ⟨B.pc, 0, none⟩), .pointer (some ⟨B.pb, 0, none⟩), .pointer (some ⟨B.pd, 0, none⟩), .pointer (some ⟨B.ps, 0, none⟩), .pointer (some ⟨B.pr, 0, none⟩), .pointer (some ⟨B.pl, 0, none⟩)] 117)) = W2 at *
 generalize w1.heap.size = q at *
 have k0 := aA hC2 0
 have k1 := aA hC2 1
 have k2 := aA hC2 2
 simp only [y0q, y1q, y2q] at k0 k1 k2
 have c0 := aA hD2 0
 have c1 := aA hD2 1
 have c2 := aA hD2 2
 have c3 := aA hD2 3
 have c4 := aA hD2 4
 have c5 := aA hD2 5
 simp only [y0q, y1q, y2q] at c0 c1 c2 c3 c4 c5
 clear HD HB1 HC1 ha hlc hD2 hC2
 go_wp2_with fail
 refine (aBw B (qQ B.div) 0 W2 HD2.out).mono ?_
 rintro e w3 ⟨b, p, bm, rv, R, ks, pv, rfl, hR, b3, hb, hu⟩
 have HN := Hd (aGy (B := B) (R := R) HF.out (Nat.le_trans HB2.out.size hb) (fun k hk => Nat.le_trans HB2.out.size (hu k hk)))
 have HR := Hd hR
 have HB3 := Hd (tr HB2.out b3)
 clear hR b3 hb hu k0 k1 k2
 go_wp2_with fail
 go_ret2
 refine ⟨_, rfl, dG.done (B := B.on b p bm rv R ks pv) (x := qQ B.div) ?_ (aLD n0 n8 q0 q8 d0 d1) (aEK _), HB3.out, HN.out, rfl, rfl, rfl⟩
 have h := HR.out
 rw [<- aEL B.n B.c B.div] at h
 exact ⟨h.cell, h.dv, h.bus, h.ev⟩
def aIB (B : Bp) (x : Bx) (h : Int) (w : World) (e : Ending) (w' : World) : Prop := ∃ C : Bp, e = .returned (.agg #[.pointer (some ⟨C.pc, 0, none⟩), .pointer (some ⟨C.pb, 0, none⟩), .pointer (some ⟨C.pd, 0, none⟩), .pointer (some ⟨C.ps, 0, none⟩), .pointer (some ⟨C.pr, 0, none⟩), .pointer (some ⟨C.pl, 0, none⟩)]) /\ bB w' C x h /\ Below w.heap.size w w' /\ C.fresh w.heap.size /\ C.n = B.n /\ C.c = B.c /\ C.div = B.div
theorem aLs {w : World} {B : Bp} {x : Bx} {h : Int} (H : bB w B x h) : Calls prog 142 #[.pointer (some ⟨B.pc, 0, none⟩)] w fun e w' => ∃ p m, e = .returned (.pointer (some ⟨p, 0, none⟩)) /\ dY w' p m x.ti B.n x.D x.S /\ Below w.heap.size w w' /\ w.heap.size <= p /\ w.heap.size <= m :=
 (aNp _ _ _ _ B.pc B.mc w H.c).mono (by rintro e w' ⟨m, hm, rfl, a, b⟩; exact ⟨_, m, rfl, a, b, Nat.le_refl _, Nat.le_of_lt hm⟩)
theorem aLt {w : World} {B : Bp} {x : Bx} {h : Int} (H : bB w B x h) : Calls prog 144 #[.pointer (some ⟨B.pd, 0, none⟩)] w fun e w' => ∃ p, e = .returned (.pointer (some ⟨p, 0, none⟩)) /\ eC w' p x.wd /\ Below w.heap.size w w' /\ w.heap.size <= p :=
 (aJ9 _ B.pd w H.d).mono (by rintro e w' ⟨rfl, a, b⟩; exact ⟨_, rfl, a, b, Nat.le_refl _⟩)
theorem aLw {w : World} {B : Bp} {x : Bx} {h : Int} (H : bB w B x h) : Calls prog 145 #[.pointer (some ⟨B.ps, 0, none⟩)] w fun e w' => ∃ p, e = .returned (.pointer (some ⟨p, 0, none⟩)) /\ eN w' p tS x.rs /\ Below w.heap.size w w' /\ w.heap.size <= p :=
 (aMt _ B.ps w H.s).mono (by rintro e w' ⟨rfl, a, b⟩; exact ⟨_, rfl, a, b, Nat.le_refl _⟩)
theorem aLv {w : World} {B : Bp} {x : Bx} {h : Int} (H : bB w B x h) : Calls prog 146 #[.pointer (some ⟨B.pr, 0, none⟩)] w fun e w' => ∃ p, e = .returned (.pointer (some ⟨p, 0, none⟩)) /\ dB w' p dK x.rk /\ Below w.heap.size w w' /\ w.heap.size <= p :=
 (aKC _ B.pr w H.r).mono (by rintro e w' ⟨rfl, a, b⟩; exact ⟨_, rfl, a, b, Nat.le_refl _⟩)
theorem aLu {w : World} {B : Bp} {x : Bx} {h : Int} (H : bB w B x h) : Calls prog 147 #[.pointer (some ⟨B.pl, 0, none⟩)] w fun e w' => ∃ p, e = .returned (.pointer (some ⟨p, 0, none⟩)) /\ lK w' p h x.msk /\ Below w.heap.size w w' /\ w.heap.size <= p :=
 (aOM _ _ B.pl w H.l).mono (by rintro e w' ⟨rfl, rfl⟩; exact ⟨_, rfl, aD _ _, aE (aH _) _, Nat.le_refl _⟩)
theorem aDJ {o : Oper} {a : Act} {w : World} {K : Act -> World -> Prop} {Q : Exit -> Act -> World -> Prop} (x y : Operand) (ho : o.op = .store 117 x y) {b : Nat} (hx : a.eval x = .pointer (some ⟨b, 0, none⟩)) (vs us : List Value) (hl : vs.length = 6) (hu : us.length = 6) (h1 : ∀ v ∈ vs, v.oneCell' = true) (hy : a.eval y = .agg vs.toArray) (hg : w.heap[b]? = some (.cells us.toArray tDv (0, 0)))
 (h : K (a.put o.dst undef) (w.setRow b vs.toArray)) : o.wp prog a w K Q := by
 have e := kT (P := prog) w b 0 tDv 117 us.toArray vs hg (by rw [hl]; exact iDv) (by simp [hl, hu]) h1
 rw [aW _ _ (by simp [hl, hu])] at e
 unfold Oper.wp execOp
 simp only [ho, hx, hy, Instr.storeAt, Instr.sureAddr, Sem.run_bind, Sem.run_pure, Result.andThen_ok, e]
 exact h
theorem aJz (B : Bp) (x : Bx) (h : Int) (w : World) (H : bB w B x h) :
 Calls prog 81 #[.agg #[.pointer (some ⟨B.pc, 0, none⟩), .pointer (some ⟨B.pb, 0, none⟩), .pointer (some ⟨B.pd, 0, none⟩), .pointer (some ⟨B.ps, 0, none⟩), .pointer (some ⟨B.pr, 0, none⟩), .pointer (some ⟨B.pl, 0, none⟩)]] w (aIB B x h w) := by
 have hD := bM w (.cells #[.pointer (some ⟨B.pc, 0, none⟩), .pointer (some ⟨B.pb, 0, none⟩), .pointer (some ⟨B.pd, 0, none⟩), .pointer (some ⟨B.ps, 0, none⟩), .pointer (some ⟨B.pr, 0, none⟩), .pointer (some ⟨B.pl, 0, none⟩)] 117) (.cells #[.pointer none, .pointer none, .pointer none, .pointer none, .pointer none, .pointer none] 117)
 have hZ := bU w (.cells #[.pointer (some ⟨B.pc, 0, none⟩), .pointer (some ⟨B.pb, 0, none⟩), .pointer (some ⟨B.pd, 0, none⟩), .pointer (some ⟨B.ps, 0, none⟩), .pointer (some ⟨B.pr, 0, none⟩), .pointer (some ⟨B.pl, 0, none⟩)] 117) (.cells #[.pointer none, .pointer none, .pointer none, .pointer none, .pointer none, .pointer none] 117)
 have hb := aE (aE (aH w) (.cells #[.pointer (some ⟨B.pc, 0, none⟩), .pointer (some ⟨B.pb, 0, none⟩), .pointer (some ⟨B.pd, 0, none⟩), .pointer (some ⟨B.ps, 0, none⟩), .pointer (some ⟨B.pr, 0, none⟩), .pointer (some ⟨B.pl, 0, none⟩)] 117)) (.cells #[.pointer none, .pointer none, .pointer none, .pointer none, .pointer none, .pointer none] 117)
 have H0 := H.below hb
 have c0 := aA hD 0
 have c1 := aA hD 1
 have c2 := aA hD 2
 have c3 := aA hD 3
 have c4 := aA hD 4
 have c5 := aA hD 5
 simp only [y0q, y1q, y2q] at c0 c1 c2 c3 c4 c5
 go_enter func81, ntmps81
 go_upto_region 1 with (fail)
 generalize ((w.alloc (.cells #[.pointer (some ⟨B.pc, 0, none⟩), .pointer (some ⟨B.pb, 0, none⟩), .pointer (some ⟨B.pd, 0, none⟩), .pointer (some ⟨B.ps, 0, none⟩), .pointer (some ⟨B.pr, 0, none⟩), .pointer (some ⟨B.pl, 0, none⟩)] 117)).alloc (.cells #[.pointer none, .pointer none, .pointer none, .pointer none, .pointer none, .pointer none] 117)) = W at *
 have HD := Hd (show W.drew.heap[w.heap.size]? = _ from hD)
 have HZ := Hd (show W.drew.heap[w.heap.size + 1]? = _ from hZ)
 have HB := Hd (jQ hb)
 have HH := Hd (H0.below (jQ (aH W)))
 clear hD hZ hb H0 H
 refine wp_region_held_drew (S := fun w' => w'.heap[w.heap.size]? = some (.cells #[.pointer (some ⟨B.pc, 0, none⟩), .pointer (some ⟨B.pb, 0, none⟩), .pointer (some ⟨B.pd, 0, none⟩), .pointer (some ⟨B.ps, 0, none⟩), .pointer (some ⟨B.pr, 0, none⟩), .pointer (some ⟨B.pl, 0, none⟩)] 117 (0, 0))) (by kernel_rfl) HD.out (fun _ => ?_)
 clear c0 c1 c2 c3 c4 c5
 refine cW (i := 0) (v := .pointer (some ⟨w.heap.size, 0, none⟩)) HD.out ?_
 try simp only [Act.put, bN, bP, bO]
 refine qM (i := 1) (v := .pointer (some ⟨B.pc, 0, none⟩)) rfl (by kernel_rfl) (fun _ _ _ h => h) (fun w' hSw => by have c := aA hSw 0; simp only [y0q, y1q, y2q] at c; clear hSw; go_simp) HD.out ?_
 try simp only [Act.put, bN, bP, bO]
 refine cW (i := 3) (v := .pointer (some ⟨w.heap.size, 1, none⟩)) HD.out ?_
 try simp only [Act.put, bN, bP, bO]
 refine qM (i := 4) (v := .pointer (some ⟨B.pb, 0, none⟩)) rfl (by kernel_rfl) (fun _ _ _ h => h) (fun w' hSw => by have c := aA hSw 1; simp only [y0q, y1q, y2q] at c; clear hSw; go_simp) HD.out ?_
 try simp only [Act.put, bN, bP, bO]
 refine cW (i := 6) (v := .pointer (some ⟨w.heap.size, 2, none⟩)) HD.out ?_
 try simp only [Act.put, bN, bP, bO]
 refine qM (i := 7) (v := .pointer (some ⟨B.pd, 0, none⟩)) rfl (by kernel_rfl) (fun _ _ _ h => h) (fun w' hSw => by have c := aA hSw 2; simp only [y0q, y1q, y2q] at c; clear hSw; go_simp) HD.out ?_
 try simp only [Act.put, bN, bP, bO]
 refine cW (i := 9) (v := .pointer (some ⟨w.heap.size, 3, none⟩)) HD.out ?_
 try simp only [Act.put, bN, bP, bO]
 refine qM (i := 10) (v := .pointer (some ⟨B.ps, 0, none⟩)) rfl (by kernel_rfl) (fun _ _ _ h => h) (fun w' hSw => by have c := aA hSw 3; simp only [y0q, y1q, y2q] at c; clear hSw; go_simp) HD.out ?_
 try simp only [Act.put, bN, bP, bO]
 refine cW (i := 12) (v := .pointer (some ⟨w.heap.size, 4, none⟩)) HD.out ?_
 try simp only [Act.put, bN, bP, bO]
 refine qM (i := 13) (v := .pointer (some ⟨B.pr, 0, none⟩)) rfl (by kernel_rfl) (fun _ _ _ h => h) (fun w' hSw => by have c := aA hSw 4; simp only [y0q, y1q, y2q] at c; clear hSw; go_simp) HD.out ?_
 try simp only [Act.put, bN, bP, bO]
 refine cW (i := 15) (v := .pointer (some ⟨w.heap.size, 5, none⟩)) HD.out ?_
 try simp only [Act.put, bN, bP, bO]
 refine qM (i := 16) (v := .pointer (some ⟨B.pl, 0, none⟩)) rfl (by kernel_rfl) (fun _ _ _ h => h) (fun w' hSw => by have c := aA hSw 5; simp only [y0q, y1q, y2q] at c; clear hSw; go_simp) HD.out ?_
 try simp only [Act.put, bN, bP, bO]
 refine lU (i := 2) (by kernel_rfl) rfl fun K hK => ?_
 go_simp
 go_wp2_with (go_at_call 142; refine (aLs HH.out).mono ?_; rintro e w1 ⟨c1, m1, rfl, a1, b1, f1, f2⟩; have HH := Hd (HH.out.below b1); have hD := aC b1 HD.out (lt_of_block HD.out); have HD := Hd hD; have A1 := Hd a1; have F1 := Hd (show w.heap.size <= c1 /\ w.heap.size <= m1 from ⟨Nat.le_trans HB.out.size f1, Nat.le_trans HB.out.size f2⟩); have HB := Hd (tr HB.out b1); have hZ := aC b1 HZ.out (lt_of_block HZ.out); have HZ := Hd hZ; clear b1 hD a1 hZ)
 refine hK.out _ _ HD.out (fun _ => ?_)
 clear hK K
 refine lU (i := 5) (by kernel_rfl) rfl fun K hK => ?_
 go_simp
 go_wp2_with (go_at_call 143; refine (aJ3 HH.out.b).mono ?_; rintro e w1 ⟨p2, g2, q2, rfl, a1, b1, f1, f2, f3⟩; have HH := Hd (HH.out.below b1); have hD := aC b1 HD.out (lt_of_block HD.out); have HD := Hd hD; have A1 := Hd (A1.out.below b1); have A2 := Hd a1; have F2 := Hd (show w.heap.size <= p2 /\ w.heap.size <= g2 /\ ∀ i, i < B.c -> w.heap.size <= q2 i from ⟨Nat.le_trans HB.out.size f1, Nat.le_trans HB.out.size f2, fun i hi => Nat.le_trans HB.out.size (f3 i hi)⟩); have HB := Hd (tr HB.out b1); have hZ := aC b1 HZ.out (lt_of_block HZ.out); have HZ := Hd hZ; clear b1 hD a1 hZ)
 refine hK.out _ _ HD.out (fun _ => ?_)
 clear hK K
 refine lU (i := 8) (by kernel_rfl) rfl fun K hK => ?_
 go_simp
 go_wp2_with (go_at_call 144; refine (aLt HH.out).mono ?_; rintro e w1 ⟨p3, rfl, a1, b1, f1⟩; have HH := Hd (HH.out.below b1); have hD := aC b1 HD.out (lt_of_block HD.out); have HD := Hd hD; have A1 := Hd (A1.out.below b1); have A2 := Hd (A2.out.below b1); have A3 := Hd a1; have F3 := Hd (show w.heap.size <= p3 from Nat.le_trans HB.out.size f1); have HB := Hd (tr HB.out b1); have hZ := aC b1 HZ.out (lt_of_block HZ.out); have HZ := Hd hZ; clear b1 hD a1 hZ)
 refine hK.out _ _ HD.out (fun _ => ?_)
 clear hK K
 refine lU (i := 11) (by kernel_rfl) rfl fun K hK => ?_
 go_simp
 go_wp2_with (go_at_call 145; refine (aLw HH.out).mono ?_; rintro e w1 ⟨p4, rfl, a1, b1, f1⟩; have HH := Hd (HH.out.below b1); have hD := aC b1 HD.out (lt_of_block HD.out); have HD := Hd hD; have A1 := Hd (A1.out.below b1); have A2 := Hd (A2.out.below b1); have A3 := Hd (A3.out.below b1); have A4 := Hd a1; have F4 := Hd (show w.heap.size <= p4 from Nat.le_trans HB.out.size f1); have HB := Hd (tr HB.out b1); have hZ := aC b1 HZ.out (lt_of_block HZ.out); have HZ := Hd hZ; clear b1 hD a1 hZ)
 refine hK.out _ _ HD.out (fun _ => ?_)
 clear hK K
 refine lU (i := 14) (by kernel_rfl) rfl fun K hK => ?_
 go_simp
 go_wp2_with (go_at_call 146; refine (aLv HH.out).mono ?_; rintro e w1 ⟨p5, rfl, a1, b1, f1⟩; have HH := Hd (HH.out.below b1); have hD := aC b1 HD.out (lt_of_block HD.out); have HD := Hd hD; have A1 := Hd (A1.out.below b1); have A2 := Hd (A2.out.below b1); have A3 := Hd (A3.out.below b1); have A4 := Hd (A4.out.below b1); have A5 := Hd a1; have F5 := Hd (show w.heap.size <= p5 from Nat.le_trans HB.out.size f1); have HB := Hd (tr HB.out b1); have hZ := aC b1 HZ.out (lt_of_block HZ.out); have HZ := Hd hZ; clear b1 hD a1 hZ)
 refine hK.out _ _ HD.out (fun _ => ?_)
 clear hK K
 refine lU (i := 17) (by kernel_rfl) rfl fun K hK => ?_
 go_simp
 go_wp2_with (go_at_call 147; refine (aLu HH.out).mono ?_; rintro e w1 ⟨p6, rfl, a1, b1, f1⟩; have HH := Hd (HH.out.below b1); have hD := aC b1 HD.out (lt_of_block HD.out); have HD := Hd hD; have A1 := Hd (A1.out.below b1); have A2 := Hd (A2.out.below b1); have A3 := Hd (A3.out.below b1); have A4 := Hd (A4.out.below b1); have A5 := Hd (A5.out.below b1); have A6 := Hd a1; have F6 := Hd (show w.heap.size <= p6 from Nat.le_trans HB.out.size f1); have HB := Hd (tr HB.out b1); have hZ := aC b1 HZ.out (lt_of_block HZ.out); have HZ := Hd hZ; have hlz := lt_of_block hZ; have z0 := aK hZ 0; have z1 := aK hZ 1; have z2 := aK hZ 2; have z3 := aK hZ 3; have z4 := aK hZ 4; have z5 := aK hZ 5; have y0 := aA hZ 0; have y1 := aA hZ 1; have y2 := aA hZ 2; have y3 := aA hZ 3; have y4 := aA hZ 4; have y5 := aA hZ 5; simp only [y0q, y1q, y2q] at y0 y1 y2 y3 y4 y5; clear b1 hD a1 hZ)
 refine hK.out _ _ HD.out (fun _ => ?_)
 clear hK K
 refine cW (i := 18) (v := .agg #[.pointer (some ⟨c1, 0, none⟩), .pointer (some ⟨p2, 0, none⟩), .pointer (some ⟨p3, 0, none⟩), .pointer (some ⟨p4, 0, none⟩), .pointer (some ⟨p5, 0, none⟩), .pointer (some ⟨p6, 0, none⟩)]) HD.out ?_
 refine lU (i := 19) (by kernel_rfl) rfl fun K hK => ?_
 rw [if_pos (by rfl)]
 refine aDJ (.tmp 2) (.tmp 21) rfl rfl [.pointer (some ⟨c1, 0, none⟩), .pointer (some ⟨p2, 0, none⟩), .pointer (some ⟨p3, 0, none⟩), .pointer (some ⟨p4, 0, none⟩), .pointer (some ⟨p5, 0, none⟩), .pointer (some ⟨p6, 0, none⟩)] z6 rfl rfl (aBQ _ _ _ _ _ _) rfl HZ.out ?_
 refine hK.out _ _ (eQ _ _ HD.out (Nat.ne_of_lt (Nat.lt_succ_self _))) (fun _ => ?_)
 clear hK K
 refine wpAnyH_done (by kernel_rfl) ?_ _
 obtain ⟨f1, f2⟩ := F1.out
 obtain ⟨f3, f4, f5⟩ := F2.out
 have D6 : bB _ (nB c1 m1 p2 g2 q2 p3 p4 p5 p6 B.n B.c B.div) x h := ⟨A1.out, A2.out, A3.out, A4.out, A5.out, A6.out⟩
 have hF : (nB c1 m1 p2 g2 q2 p3 p4 p5 p6 B.n B.c B.div).fresh w.heap.size :=
  ⟨fun k hk => by rcases hk with e | e | e | ⟨i, hi, e⟩ | e | e | e | e <;> rw [e] <;> first | exact f1 | exact f3 | exact f4 | exact f5 i hi | exact F3.out | exact F4.out | exact F5.out | exact F6.out, f2⟩
 have hno := D6.no HZ.out (by decide)
 have HS := Hd (aY ([.pointer (some ⟨c1, 0, none⟩), .pointer (some ⟨p2, 0, none⟩), .pointer (some ⟨p3, 0, none⟩), .pointer (some ⟨p4, 0, none⟩), .pointer (some ⟨p5, 0, none⟩), .pointer (some ⟨p6, 0, none⟩)] : List Value).toArray HZ.out)
 have HB7 := Hd (aB HB.out ([.pointer (some ⟨c1, 0, none⟩), .pointer (some ⟨p2, 0, none⟩), .pointer (some ⟨p3, 0, none⟩), .pointer (some ⟨p4, 0, none⟩), .pointer (some ⟨p5, 0, none⟩), .pointer (some ⟨p6, 0, none⟩)] : List Value).toArray (g := w.heap.size + 1) (Nat.le_succ _))
 have D7 := Hd (D6.off (aGv _ (w.heap.size + 1) ([.pointer (some ⟨c1, 0, none⟩), .pointer (some ⟨p2, 0, none⟩), .pointer (some ⟨p3, 0, none⟩), .pointer (some ⟨p4, 0, none⟩), .pointer (some ⟨p5, 0, none⟩), .pointer (some ⟨p6, 0, none⟩)] : List Value).toArray) (fun k hk e => hno (e ▸ hk)) (yJ D6.c HZ.out))
 have HF := Hd hF
 clear f1 f2 f3 f4 f5 D6 hF hno A1 A2 A3 A4 A5 A6 F1 F2 F3 F4 F5 F6 HB HZ HD HH
 go_wp2_with fail
 exact bodyPost_ret (aOr rfl _ _ [.pointer (some ⟨c1, 0, none⟩), .pointer (some ⟨p2, 0, none⟩), .pointer (some ⟨p3, 0, none⟩), .pointer (some ⟨p4, 0, none⟩), .pointer (some ⟨p5, 0, none⟩), .pointer (some ⟨p6, 0, none⟩)] rfl rfl HS.out) rfl ⟨nB c1 m1 p2 g2 q2 p3 p4 p5 p6 B.n B.c B.div, rfl, D7.out, HB7.out, HF.out, rfl, rfl, rfl⟩
theorem aMl {W : World} {B : Bp} {x : Bx} {h : Int} {v' : Value} (H : dG W B { x with es := [] } h) (he : gN W tEv v' x.es) : dG (W.setCell ⟨B.b, 10, none⟩ v') { B with ev := v' } x h := by
 have hso := aG W B.b 10 v'
 have hne : ∀ k, v'.ownBlock = some k -> k ≠ B.b := fun k hk e => by
  have h1 := he.kd hk
  rw [e, bT H.cell] at h1; revert h1; decide
 refine ⟨aR H.cell 10 v', ?_, H.bus.ofOff hso fun k hk e => H.busApart hk (.inl e), he.keep fun g hg => hso.block g (he.lt hg) (hne g hg)⟩
 have D := H.dv.off hso (fun k hk e => H.bApart (e ▸ hk)) (fun e => H.mcApart (.inl e))
 exact ⟨D.c, D.b, D.d, D.s, D.r, D.l⟩
def aAk (B : Bp) (x : Bx) (w : World) (e : Ending) (w' : World) : Prop := ∃ C : Bp, e = .returned (.pointer (some ⟨C.b, 0, none⟩)) /\ aZ w' C x /\ Below w.heap.size w w' /\ C.new w.heap.size /\ C.n = B.n /\ C.c = B.c /\ C.div = B.div
theorem aK6 (B : Bp) (x : Bx) (w : World) (H : aZ w B x) (hl : x.es.length < 4294967296) :
 Calls prog 44 #[.pointer (some ⟨B.b, 0, none⟩)] w (aAk B x w) := by
 have HH := Hd H
 have HL := Hd hl
 have hX := Hd (show w.drew.heap[B.b]? = some (.cells #[.pointer (some ⟨B.pc, 0, none⟩), .pointer (some ⟨B.pb, 0, none⟩), .pointer (some ⟨B.pd, 0, none⟩), .pointer (some ⟨B.ps, 0, none⟩), .pointer (some ⟨B.pr, 0, none⟩), .pointer (some ⟨B.pl, 0, none⟩), .int .i64 B.n, .int .i64 B.c, .int .u32 B.div, .pointer (some ⟨B.bp, 0, none⟩), B.ev] tBd (0, 0)) from H.raw.cells)
 clear H hl
 go_enter func44, ntmps44
 go_upto_region 3 with (fail)
 refine wp_region_held_drew (S := fun w' => w'.heap[B.b]? = some (.cells #[.pointer (some ⟨B.pc, 0, none⟩), .pointer (some ⟨B.pb, 0, none⟩), .pointer (some ⟨B.pd, 0, none⟩), .pointer (some ⟨B.ps, 0, none⟩), .pointer (some ⟨B.pr, 0, none⟩), .pointer (some ⟨B.pl, 0, none⟩), .int .i64 B.n, .int .i64 B.c, .int .u32 B.div, .pointer (some ⟨B.bp, 0, none⟩), B.ev] tBd (0, 0))) (by kernel_rfl) hX.out (fun _ => ?_)
 refine cW (i := 0) (v := .pointer (some ⟨B.b, 0, none⟩)) hX.out ?_
 try simp only [Act.put, bN, bP, bO]
 refine cW (i := 1) (v := .pointer (some ⟨B.b, 0, none⟩)) hX.out ?_
 try simp only [Act.put, bN, bP, bO]
 refine cW (i := 2) (v := .pointer (some ⟨B.b, 6, none⟩)) hX.out ?_
 try simp only [Act.put, bN, bP, bO]
 refine qM (i := 3) (v := .agg #[.int .i64 B.n, .int .i64 B.c, .int .u32 B.div]) rfl (by kernel_rfl) (fun _ _ _ h => h) (fun w' hSw => by have c6 := aA hSw 6; have c7 := aA hSw 7; have c8 := aA hSw 8; simp only [y0q, y1q, y2q] at c6 c7 c8; clear hSw; go_simp) hX.out ?_
 try simp only [Act.put, bN, bP, bO]
 refine cW (i := 4) (v := .pointer (some ⟨B.b, 0, none⟩)) hX.out ?_
 try simp only [Act.put, bN, bP, bO]
 refine cW (i := 5) (v := .pointer (some ⟨B.b, 0, none⟩)) hX.out ?_
 try simp only [Act.put, bN, bP, bO]
 refine cW (i := 6) (v := .pointer (some ⟨B.b, 0, none⟩)) hX.out ?_
 try simp only [Act.put, bN, bP, bO]
 refine qM (i := 7) (v := .agg #[.pointer (some ⟨B.pc, 0, none⟩), .pointer (some ⟨B.pb, 0, none⟩), .pointer (some ⟨B.pd, 0, none⟩), .pointer (some ⟨B.ps, 0, none⟩), .pointer (some ⟨B.pr, 0, none⟩), .pointer (some ⟨B.pl, 0, none⟩)]) rfl (by kernel_rfl) (fun _ _ _ h => h) (fun w' hSw => by have c0 := aA hSw 0; have c1 := aA hSw 1; have c2 := aA hSw 2; have c3 := aA hSw 3; have c4 := aA hSw 4; have c5 := aA hSw 5; simp only [y0q, y1q, y2q] at c0 c1 c2 c3 c4 c5; clear hSw; go_simp) hX.out ?_
 try simp only [Act.put, bN, bP, bO]
 refine lU (i := 8) (by kernel_rfl) rfl fun K hK => ?_
 go_simp
 go_wp2_with (go_at_call 81; refine (aJz B x _ _ (HH.out.dv.below (jQ (aH w)))).mono ?_; rintro e w1 ⟨C, rfl, d1, b1, hf, hn, hc, hv⟩; have hX := Hd (aC b1 hX.out (lt_of_block hX.out)); have HB := Hd (tr (jQ (aH w)) b1); have HD := Hd d1; have HF := Hd hf; have HNC := Hd (show C.n = B.n /\ C.c = B.c /\ C.div = B.div from ⟨hn, hc, hv⟩); clear b1 d1 hf hn hc hv)
 refine hK.out _ _ hX.out (fun _ => ?_)
 clear hK K
 refine lU (i := 9) (by kernel_rfl) rfl fun K hK => ?_
 go_simp
 have HM := Hd (aBw C x (wires B.n B.c x) w1 HD.out)
 rw [HNC.out.1, HNC.out.2.1, HNC.out.2.2] at HM
 go_wp2_with (go_at_call 58; refine (HM.out).mono ?_; rintro e w2 ⟨b, p, bm, rv, R, ks, pv, rfl, r2, b2, hb, hu⟩; have hX := Hd (aC b2 hX.out (lt_of_block hX.out)); have HR := Hd r2; have HN := Hd (aGy (B := C) (R := R) (aA2 HF.out (Nat.le_refl _)) (Nat.le_trans HB.out.size hb) (fun k hk => Nat.le_trans HB.out.size (hu k hk))); have HB2 := Hd (tr HB.out b2); clear r2 b2 hb hu)
 refine hK.out _ _ hX.out (fun _ => ?_)
 clear hK K
 refine cW (i := 10) (v := .pointer (some ⟨b, 0, none⟩)) hX.out ?_
 try simp only [Act.put, bN, bP, bO]
 refine wpAnyH_done (by kernel_rfl) ?_ _
 go_wp2_with fail
 refine (aAs B x w2 (HH.out.below HB2.out) HL.out).mono ?_
 rintro e w3 ⟨v', rfl, he, b3, hn3⟩
 have HE := Hd he
 have R3 := Hd (HR.out.below b3)
 have HB3 := Hd (tr HB2.out b3)
 have N3 := Hd (show ∀ k, v'.ownBlock = some k -> w.heap.size <= k from fun k hk => Nat.le_trans HB2.out.size (hn3 k hk))
 have hc := R3.out.cell
 have hlc : b < w3.heap.size := lt_of_block hc
 have hfc : w3.frozen? ⟨b, 10, none⟩ = false := aK hc 10
 have hcc : w3.cell? ⟨b, 10, none⟩ = some (.slice none 0 0) := aA hc 10
 have hbl : w.heap.size <= b := HN.out b (.inl (.inl rfl))
 have HF1 := Hd (show aAk B x w (.returned (.pointer (some ⟨b, 0, none⟩))) (w3.setCell ⟨b, 10, none⟩ v') from by
  have r := aMl R3.out HE.out
  have hw : wires B.n B.c x = wires C.n C.c x := by rw [HNC.out.1, HNC.out.2.1]
  rw [hw] at r
  have ok := HH.out.ok
  rw [<- HNC.out.1, <- HNC.out.2.1] at ok
  refine ⟨{ C.on b p bm rv R ks pv with ev := v' }, rfl, r.done ok HH.out.still, HB3.out.setCell (p := ⟨b, 10, none⟩) hbl _, fun k hk => ?_, HNC.out.1, HNC.out.2.1, HNC.out.2.2⟩
  rcases hk with (hk | hk | hk) | hk | hk
  . exact HN.out k (.inl (.inl hk))
  . exact HN.out k (.inl (.inr (.inl hk)))
  . exact N3.out k hk
  . exact HN.out k (.inr (.inl hk))
  . exact HN.out k (.inr (.inr hk)))
 clear b3 hn3 hc hbl
 rcases gH he with ⟨rfl, _⟩ | ⟨g, cap, rfl, _⟩
 all_goals
  clear he
  go_wp2_with fail
  go_ret
  exact HF1.out
def Has (s : Nat) (w : World) (b n c : Nat) (d : Int) (x : Bx) : Prop := ∃ B : Bp, B.b = b /\ B.n = n /\ B.c = c /\ B.div = d /\ aZ w B x /\ B.new s
section
variable {s : Nat} {w w' : World} {b n c : Nat} {d : Int} {x y : Bx}
theorem Has.below (H : Has s w b n c d x) (hb : Below w.heap.size w w') : Has s w' b n c d x := by
 obtain ⟨B, h1, h2, h3, h4, h5, h6⟩ := H
 exact ⟨B, h1, h2, h3, h4, h5.below hb, h6⟩
theorem Has.lt (H : Has s w b n c d x) : b < w.heap.size := by
 obtain ⟨B, rfl, h2, h3, h4, h5, h6⟩ := H
 exact h5.lt (.inl (.inl rfl))
theorem Has.ok (H : Has s w b n c d x) : x.ok n c := by
 obtain ⟨B, h1, rfl, rfl, h4, h5, h6⟩ := H
 exact h5.ok
theorem Has.still (H : Has s w b n c d x) : x.still := by
 obtain ⟨B, h1, rfl, rfl, h4, h5, h6⟩ := H
 exact h5.still
theorem Has.le (H : Has s w b n c d x) : s <= b := by
 obtain ⟨B, rfl, h2, h3, h4, h5, h6⟩ := H
 exact h6 _ (.inl (.inl rfl))
theorem Has.like (H : Has s w b n c d x) (l : Bx.like c x y) : Has s w b n c d y := by
 obtain ⟨B, h1, h2, rfl, h4, h5, h6⟩ := H
 exact ⟨B, h1, h2, rfl, h4, h5.like l, h6⟩
theorem aBI {B : Bp} {ev' : Value} {s : Nat} {w : World} (h : B.new s) (hs : s <= w.heap.size) (he : ∀ k, ev'.ownBlock = some k -> B.ev.ownBlock = some k \/ w.heap.size <= k) : ({ B with ev := ev' } : Bp).new s := by
 rintro k ((hk | hk | hk) | hk | hk)
 . exact h k (.inl (.inl hk))
 . exact h k (.inl (.inr (.inl hk)))
 . exact (he k hk).elim (fun e => h k (.inl (.inr (.inr e)))) fun e => Nat.le_trans hs e
 . exact h k (.inr (.inl hk))
 . exact h k (.inr (.inr hk))
end
structure Two (w : World) (B C : Bp) (x y : Bx) : Prop where
 one : aZ w B x
 two : aZ w C y
 ap : ∀ k, C.all k -> ¬ B.own k
theorem Two.below {w w' : World} {B C : Bp} {x y : Bx} (H : Two w B C x y) (hb : Below w.heap.size w w') : Two w' B C x y := ⟨H.one.below hb, H.two.below hb, H.ap⟩
theorem Two.left {w w' : World} {B C : Bp} {x y z : Bx} (H : Two w B C x y) (L : kV B z w w') : ∃ ev', Two w' { B with ev := ev' } C z y /\ ∀ k, ev'.ownBlock = some k -> B.ev.ownBlock = some k \/ w.heap.size <= k := by
 obtain ⟨ev', h, ho, he⟩ := L
 refine ⟨ev', ⟨h, H.two.off ho H.ap, fun k hk ho => ?_⟩, he⟩
 rcases ho with h1 | h1 | h1
 . exact H.ap k hk (.inl h1)
 . exact H.ap k hk (.inr (.inl h1))
 . exact (he k h1).elim (fun e => H.ap k hk (.inr (.inr e))) fun e => by have := H.two.lt hk; omega
def aAM (m : Nat) : Bool := aFo m || (m == tBd + 1 || m == tEv + 1)
def aFG (m : Nat) : Bool := aAM m || aLC m
section
variable {w w' : World} {B : Bp} {x y : Bx}
theorem aZ.ownKd (H : aZ w B x) {k : Nat} (hk : B.own k) : aAM (kd w k) = true := by
 unfold aAM
 rcases hk with rfl | hd | he
 . rw [bT H.cell]; decide
 . rw [H.dv.kd hd]; rfl
 . rw [H.ev.kd he]; decide
theorem aZ.allKd (H : aZ w B x) {k : Nat} (hk : B.all k) : aFG (kd w k) = true := by
 unfold aFG
 rcases hk with hk | rfl | hk
 . rw [H.ownKd hk]; rfl
 . rw [pE H.dv.c.map]; decide
 . rw [H.bus.kd hk, Bool.or_true]
theorem aZ.offk (H : aZ w B x) {k : Nat} {cs : Array Value} {T : TypeId} {f : Nat × Nat} (ho : aF (· = k) w w') (hk : w.heap[k]? = some (.cells cs T f)) (hT : aFG (T + 1) = false) : aZ w' B x :=
 H.off ho fun j hj e => by have := H.allKd hj; rw [e, bT hk, hT] at this; cases this
def Kp (w w' : World) : Prop := ∀ (k : Nat) (cs : Array Value) (T : TypeId) (f : Nat × Nat), w.heap[k]? = some (.cells cs T f) -> aAM (T + 1) = false -> w'.heap[k]? = some (.cells cs T f)
theorem Kp.refl (w : World) : Kp w w := fun _ _ _ _ h _ => h
theorem Kp.trans {a b c : World} (h : Kp a b) (g : Kp b c) : Kp a c := fun k cs T f hk hT => g k cs T f (h k cs T f hk hT) hT
theorem Kp.ofBelow (hb : Below w.heap.size w w') : Kp w w' := fun _ _ _ _ h _ => aC hb h (lt_of_block h)
theorem Kp.ofOff {S : Nat -> Prop} (ho : aF S w w') (hs : ∀ k, k < w.heap.size -> S k -> aAM (kd w k) = true) : Kp w w' := fun k cs T f hk hT =>
 ho.at hk fun hS => by have := hs k (lt_of_block hk) hS; rw [bT hk, hT] at this; cases this
theorem kV.kp (H : aZ w B x) (L : kV B y w w') : Kp w w' := by
 obtain ⟨ev', h, ho, he⟩ := L
 exact Kp.ofOff ho fun k _ hk => H.ownKd hk
end
abbrev tPt : TypeId := 108
abbrev tCo : TypeId := 106
abbrev tU : TypeId := 26
abbrev tG : TypeId := 191
def gK (m : Nat) : Bool := m == tU + 1 || m == tG + 1
def jW (s : Nat) (w : World) (v : Value) (gs : List Int) : Prop := ∃ y cap, v = .slice y gs.length cap /\ gs.length <= cap /\ cap <= maxLen /\
 (gs.length = 0 \/ ∃ b off, y = some ⟨b, off, none⟩ /\ b < w.heap.size /\ (b < s \/ gK (kd w b) = true) /\ ∀ i g, gs[i]? = some g -> w.cell? ⟨b, off + i, none⟩ = some (.int .u32 g))
section
variable {s : Nat} {w w' : World} {v : Value} {gs : List Int}
theorem jW.one (h : jW s w v gs) : v.oneCell' = true := by obtain ⟨y, cap, rfl, _⟩ := h; rfl
theorem jW.keep (h : jW s w v gs) (hs : w.heap.size <= w'.heap.size) (hk : ∀ k, k < w.heap.size -> (k < s \/ gK (kd w k) = true) -> w'.heap[k]? = w.heap[k]?) : jW s w' v gs := by
 obtain ⟨y, cap, rfl, h1, h2, h3⟩ := h
 refine ⟨y, cap, rfl, h1, h2, h3.imp id ?_⟩
 rintro ⟨b, off, rfl, hb, hg, hc⟩
 have e := hk b hb hg
 refine ⟨b, off, rfl, Nat.lt_of_lt_of_le hb hs, hg.imp id fun hg => by rw [aIl e]; exact hg, fun i g hi => ?_⟩
 rw [<- hc i g hi]
 simp only [World.cell?, e]
theorem jW.below (h : jW s w v gs) (hb : Below w.heap.size w w') : jW s w' v gs := h.keep hb.size fun k hk _ => hb.block k hk
theorem jW.off {S : Nat -> Prop} (h : jW s w v gs) (ho : aF S w w') (hS : ∀ k, k < w.heap.size -> (k < s \/ gK (kd w k) = true) -> ¬ S k) : jW s w' v gs := h.keep ho.size fun k hk hg => ho.block k hk (hS k hk hg)
theorem tZ {m : Nat} (h : gK m = true) : aAM m = false /\ aFG m = false /\ m ≠ tPt + 1 := by
 unfold gK at h
 simp only [Bool.or_eq_true, beq_iff_eq] at h
 rcases h with rfl | rfl <;> exact ⟨by decide, by decide, by decide⟩
theorem jW.kp (h : jW s w v gs) (K : Kp w w') (lo : Below s w w') : jW s w' v gs := h.keep lo.size fun k hk hg => by
 rcases hg with hg | hg
 . exact lo.block k hg
 . unfold kd at hg
   cases e : w.heap[k]? with
   | none => rw [e] at hg; exact absurd (show gK 0 = true from hg) (by decide)
   | some o =>
     rw [e] at hg
     cases o with
     | cells cs T f => exact K k cs T f e (tZ hg).1
     | _ => exact absurd (show gK 0 = true from hg) (by decide)
end
def pcl (p : Pt) (b : Nat) (gv : Value) : List Value := [.int .i64 p.md, .int .u64 p.sp, .int .u32 p.se, .pointer (some ⟨b, 0, none⟩), gv]
structure aT (w : World) (q : Nat) (B : Bp) (p : Pt) (gv : Value) : Prop where
 cell : w.heap[q]? = some (.cells (pcl p B.b gv).toArray tPt (0, 0))
 bd : aZ w B p.x
 g : jW 0 w gv p.gs
section
variable {w w' : World} {q : Nat} {B : Bp} {p : Pt} {gv : Value}
theorem aT.lt (H : aT w q B p gv) : q < w.heap.size := lt_of_block H.cell
theorem aT.below (H : aT w q B p gv) (hb : Below w.heap.size w w') : aT w' q B p gv := ⟨aC hb H.cell H.lt, H.bd.below hb, H.g.below hb⟩
theorem aT.free (H : aT w q B p gv) (j : Nat) : w.frozen? ⟨q, j, none⟩ = false := aK H.cell j
theorem aT.c0 (H : aT w q B p gv) : w.cell? ⟨q, 0, none⟩ = some (.int .i64 p.md) := by rw [aA H.cell 0]; rfl
theorem aT.c1 (H : aT w q B p gv) : w.cell? ⟨q, 1, none⟩ = some (.int .u64 p.sp) := by rw [aA H.cell 1]; rfl
theorem aT.c2 (H : aT w q B p gv) : w.cell? ⟨q, 2, none⟩ = some (.int .u32 p.se) := by rw [aA H.cell 2]; rfl
theorem aT.c3 (H : aT w q B p gv) : w.cell? ⟨q, 3, none⟩ = some (.pointer (some ⟨B.b, 0, none⟩)) := by rw [aA H.cell 3]; rfl
theorem aT.c4 (H : aT w q B p gv) : w.cell? ⟨q, 4, none⟩ = some gv := by rw [aA H.cell 4]; rfl
theorem aT.noB (H : aT w q B p gv) : ¬ B.all q := fun h => by have := H.bd.allKd h; rw [bT H.cell] at this; revert this; decide
theorem aT.noO (H : aT w q B p gv) : ¬ B.own q := fun h => H.noB (.inl h)
theorem jW.noO {s : Nat} {v : Value} {gs : List Int} (H : aZ w B p.x) {k : Nat} (hk : gK (kd w k) = true) : ¬ B.all k := fun h => by have := H.allKd h; rw [(tZ hk).2.1] at this; cases this
theorem aT.noG (H : aT w q B p gv) {k : Nat} (hk : gK (kd w k) = true) : k ≠ q := fun e => by rw [e, bT H.cell] at hk; revert hk; decide
end
theorem aEc {n c : Nat} (x : Bx) (h : x.told) : x.ldv n c 268632068 = (x.es.length : Int) /\ Bx.lde n c 268632068 = 0 := by
 have e : wh 268632068 = .rs 4 := by unfold wh; rw [if_neg (by decide), if_neg (by decide), if_neg (by decide), if_neg (by decide), if_pos (by decide)]; rfl
 unfold Bx.ldv Bx.lde
 rw [e]
 constructor
 . show iP x.rs 4 = _
   rw [<- h]
   rfl
 . rfl
theorem aAN (B : Bp) (x : Bx) (w : World) (H : aZ w B x) (ht : x.told) :
 Calls prog 63 #[.pointer (some ⟨B.b, 0, none⟩)] w fun e w' => e = .returned (.int .u32 x.es.length) /\ Below w.heap.size w w' := by
 have HL := Hd (aCE B x 268632068 w H (by decide) (by decide))
 have hc := aEc (n := B.n) (c := B.c) x ht
 rw [hc.1, hc.2] at HL
 clear hc ht H
 go_enter func63, ntmps63
 go_wp2_with (go_at_call 73; refine (HL.out).mono ?_; rintro e w1 ⟨rfl, hb1⟩)
 go_ret
 exact ⟨rfl, hb1⟩
theorem aCs (mk sp se t M : Int) (w : World) (hM : max se t = M) :
 Calls prog 74 #[.agg #[.int .i64 mk, .int .u64 sp, .int .u32 se], .int .u32 t] w fun e w' => e = .returned (.agg #[.int .i64 mk, .int .u64 sp, .int .u32 M]) /\ Below w.heap.size w w' := by
 subst hM
 have hb := aE (aE (aH w) (.cells #[.int .i64 mk, .int .u64 sp, .int .u32 (max se t)] tCo (0, 0))) (.cells #[.int .i64 mk, .int .u64 sp, .int .u32 (max se t)] tCo (0, 0))
 go_enter func74, ntmps74
 go_wp2_with fail
 refine bodyPost_ret (v := .agg #[.int .i64 mk, .int .u64 sp, .int .u32 (max se t)]) ?_ rfl ⟨rfl, hb⟩
 simp [results, results74, go_sem]
end Go.Proofs.YtaohacadochldaaGreat.B
