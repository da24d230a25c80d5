/- A part of the proof of a law of layer 12: bt. -/
import Derived.Test.YtaohacadochldaaGreatZCbs
set_option linter.unusedVariables false
set_option linter.unusedSimpArgs false
set_option maxHeartbeats 12800000
set_option maxRecDepth 100000
namespace Go.Proofs.YtaohacadochldaaGreat.B
open Go.Proofs.Tryz
open Go.ChangeShapes Go.WideShapes Go.RowKit Go.Sort
section
variable {s n c m q : Nat} {B : Bp} {p : Pt} {gv bk ev dv : Value} {K a v : Int} {gA : Value} {gs : List Int} {N : Int} {w : World}
theorem aOi (A : Ar s n c m q B p gv bk ev dv a v gA gs N w) (hK : K = 5) : DoC s n c m q p bk ev dv K a v gA N w := by
 have HF := Hd (A.f K)
 have HB := Hd (A.b K)
 have HG := Hd (A.g K)
 have HA := Hd A
 clear A
 unfold DoC
 subst hK
 obtain ⟨yA, capA, rfl, _, _, hyA⟩ := HG.out
 go_enter func15, ntmps15
 go_upto_region 1 with (fail)
 rw [cP, bH, show Obj.cells #[.int .i64 5, .int .u32 a, .int .u32 v, (.slice yA gs.length capA), .int .u64 N] 52 (0, 0) = hJ 5 a v (.slice yA gs.length capA) N from rfl]
 generalize ((w.alloc (fW n p bk ev dv)).alloc (hJ 5 a v (.slice yA gs.length capA) N)).alloc dI = W at *
 have x0 := HF.out.x0
 have CB := Hd (fun w' (b : Bo s n c m w' q B p gv bk ev (dv)) => pI q B p gv w' b.H)
 have CC := Hd (fun w' (b : Bo s n c m w' q B p gv bk ev (dv)) => aK6 B p.x w' b.H.bd (by have := HA.out.el; omega))
 have CP := Hd (fun C w' (b : Bo s n c m w' q B p gv bk ev (dv)) h => aOb q B C p p.x gv w' b.H h HA.out.po.gl)
 have hP1 := Pt.stp_ok (n := B.n) (c := B.c) HA.out.po HB.out.F.st HA.out.ps HB.out.F.hm 268632072 45063
 have CS := Hd (fun w' (h : aT w' q B p gv) => aCt q B p gv m 268632072 45063 w' h HA.out.po (by have := HA.out.hm; omega) (by decide) (by decide) (by decide) (by decide))
 obtain ⟨P1, hP⟩ : ∃ P1, p.stp B.n B.c 268632072 45063 = P1 := ⟨_, rfl⟩
 rw [hP] at hP1
 have CS := Hd (fun w' h => by have := CS.out w' h; rw [hP] at this; exact this)
 have CBt := Hd (fun ev1 w' (h : aT w' q { B with ev := ev1 } P1 gv) => aKZ q { B with ev := ev1 } P1 gv (m + 1) w' h hP1 (by have := HA.out.hm; omega))
 clear hP hP1
 go_upto_region 23 with (first | (go_at_call 20; refine (CB.out _ HB.out).mono ?_; rintro e W1 ⟨rfl, hb⟩; have HF := Hd (HF.out.below hb); have HB := Hd (HB.out.below hb); clear hb) | (go_at_call 44; refine (CC.out _ HB.out).mono ?_; rintro e W2 ⟨C, rfl, h1, hb, h3, h7, h8, h9⟩; have HAP := Hd (And.intro (aEz HB.out.H h3) (show C.new s from fun k hk => Nat.le_trans HF.out.ss (h3 k hk))); have HF := Hd (HF.out.below hb); have HB := Hd (HB.out.below hb); have HC := Hd h1; have HCE := Hd (show C.n = n /\ C.c = c from ⟨h7.trans HB.out.en, h8.trans HB.out.ec⟩); clear h1 hb h3 h7 h8 h9 CC CB) | (go_at_call 43; refine (CP.out C _ HB.out HC.out).mono ?_; rintro e W3 ⟨r, gv', rfl, hr, hp, hb⟩; have HT := Hd (aDD HB.out.H hp HAP.out.1 hb hr); have HSR := Hd (Nat.le_trans HF.out.ss hr); have HF := Hd (HF.out.below hb); have HB := Hd (HB.out.below hb); clear hr hp hb CP HC))
 have AL := Hd (fun w' (h : aT w' r C p gv') (F : Fit s n c m p bk ev dv w') => by have := aDs r C p gv' s m bk ev dv w' h (by rw [HCE.out.1, HCE.out.2]; exact F); rw [HCE.out.1] at this; exact this)
 go_upto_region 25 with (first | (refine aPs (.tmp 4) rfl (by kernel_rfl) rfl HF.out.h ?_) | (go_at_call 19; refine (AL.out _ HT.out.two HB.out.F).mono ?_; rintro e W4 ⟨rfl, hb⟩; have HF := Hd (HF.out.below hb); have HB := Hd (HB.out.below hb); have HT := Hd (HT.out.below hb); clear hb AL) | (go_at_call 43; refine (aEo q _).mono ?_; rintro e W5 ⟨rfl, hb⟩; have HF := Hd (HF.out.below hb); have HB := Hd (HB.out.below hb); have HT := Hd (HT.out.below hb); clear hb))
 have HEB := Hd (And.intro HB.out.nw (And.intro HB.out.sq (And.intro HB.out.F.ok HB.out.F.st)))
 have HM0 := Hd HB.out.F.M
 have HG0 := Hd HB.out.F.G
 clear HB
 go_upto_region 26 with (go_at_call 30; refine (CS.out _ HT.out.one).mono ?_; rintro e W6 ⟨rfl, hL⟩; obtain ⟨C1, LC⟩ := hL.lp HT.out.one HEB.out.1 HEB.out.2.1 HF.out.ss; obtain ⟨ev1, T1, _, he1⟩ := HT.out.left hL; have HN1 := Hd (aBI HEB.out.1 HF.out.ss he1); have HF := Hd (HF.out.step LC.kq LC.lo); have HM0 := Hd (HM0.out.kq LC.kq); have HG0 := Hd (HG0.out.kq LC.kq LC.lo); have HT := Hd T1; clear LC hL T1 he1 CS)
 go_upto_region 27 with (go_at_call 39; refine (CBt.out _ _ HT.out.one).mono ?_; rintro e W7 ⟨rfl, hL⟩; obtain ⟨C2, LC⟩ := hL.lp HT.out.one HN1.out HEB.out.2.1 HF.out.ss; obtain ⟨ev2, T1, _, he1⟩ := HT.out.left hL; have HF := Hd (HF.out.step LC.kq LC.lo); have HM0 := Hd (HM0.out.kq LC.kq); have HG0 := Hd (HG0.out.kq LC.kq LC.lo); have HT := Hd T1; clear LC hL T1 he1 CBt)
 have HB := Hd (show Bo s n c (m + 1) W7 r C p gv' bk ev dv from ⟨HT.out.two, HAP.out.2, HSR.out, HCE.out.1, HCE.out.2, HM0.out, HG0.out, HEB.out.2.2.1, HEB.out.2.2.2, HA.out.po.le (Nat.le_succ m), by have := HA.out.hm; omega, HF.out.ss⟩)
 have HF := Hd (HF.out.below (jQ (aH W7)))
 have HB := Hd (HB.out.below (jQ (aH W7)))
 refine wp_region_held_drew (S := fun w' => QP w' w.heap.size n p bk ev dv) (by kernel_rfl) HF.out.h (fun _ => ?_)
 generalize W7.drew = W8 at *
 refine cW (i := 0) (v := .pointer (some ⟨r, 0, none⟩)) HF.out.h ?_
 simp only [dN, dP, dO, Act.put, bN, bP, bO]
 refine qM (i := 1) (v := (.agg (pl n p bk ev dv).toArray)) rfl (by kernel_rfl) (fun _ _ _ h => h) (fun w' hSw => aBa (.tmp 4) rfl rfl hSw) HF.out.h ?_
 simp only [dN, dP, dO, Act.put, bN, bP, bO]
 refine cW (i := 2) (v := .pointer (some ⟨r, 0, none⟩)) HF.out.h ?_
 simp only [dN, dP, dO, Act.put, bN, bP, bO]
 refine lU (i := 3) (by kernel_rfl) rfl fun K hK => ?_
 refine jK rfl (.tmp 7) (.tmp 146) rfl rfl n p bk ev dv rfl HF.out.z ⟨HB.out.F.M.one.1, HB.out.F.M.one.2, HB.out.F.G.one⟩ ?_
 intro W9 hN9 ho9
 have HX := Hd (aAy (q0 := q) HF.out HB.out ho9 (fun h => absurd rfl h))
 have hS9 := (show QP W9 w.heap.size n p bk ev dv from ho9.at HF.out.h (by omega))
 refine hK.out _ _ hS9 (fun _ => ?_)
 clear hK K ho9
 simp only [Act.put]
 refine cW (i := 4) (v := .bool true) hS9 ?_
 exact gR
end
section
variable {s n c m q : Nat} {B : Bp} {p : Pt} {gv bk ev dv : Value} {K a v : Int} {gA : Value} {gs : List Int} {N : Int} {w : World}
theorem aOj (A : Ar s n c m q B p gv bk ev dv a v gA gs N w) (k0 : (K == 0) = false) (k1 : (K == 1) = false) (k2 : (K == 2) = false) (k3 : (K == 3) = false) (k4 : (K == 4) = false) (k5 : (K == 5) = false) : DoC s n c m q p bk ev dv K a v gA N w := by
 have HF := Hd (A.f K)
 have HB := Hd (A.b K)
 have HG := Hd (A.g K)
 have HA := Hd A
 clear A
 unfold DoC
 obtain ⟨yA, capA, rfl, _, _, hyA⟩ := HG.out
 go_enter func15, ntmps15
 go_upto_region 1 with (fail)
 rw [cP, bH, show Obj.cells #[.int .i64 K, .int .u32 a, .int .u32 v, (.slice yA gs.length capA), .int .u64 N] 52 (0, 0) = hJ K a v (.slice yA gs.length capA) N from rfl]
 generalize ((w.alloc (fW n p bk ev dv)).alloc (hJ K a v (.slice yA gs.length capA) N)).alloc dI = W at *
 have x0 := HF.out.x0
 go_upto_region 28 with (fail)
 have HF := Hd (HF.out.below (jQ (aH W)))
 have HB := Hd (HB.out.below (jQ (aH W)))
 have HB := Hd (HB.out.le (Nat.le_succ m) (by have := HA.out.hm; omega))
 refine wp_region_held_drew (S := fun w' => QP w' w.heap.size n p bk ev dv) (by kernel_rfl) HF.out.h (fun _ => ?_)
 generalize W.drew = W5 at *
 refine cW (i := 0) (v := .pointer (some ⟨q, 0, none⟩)) HF.out.h ?_
 simp only [dN, dP, dO, Act.put, bN, bP, bO]
 refine qM (i := 1) (v := (.agg (pl n p bk ev dv).toArray)) rfl (by kernel_rfl) (fun _ _ _ h => h) (fun w' hSw => aBa (.tmp 4) rfl rfl hSw) HF.out.h ?_
 simp only [dN, dP, dO, Act.put, bN, bP, bO]
 refine cW (i := 2) (v := .pointer (some ⟨q, 0, none⟩)) HF.out.h ?_
 simp only [dN, dP, dO, Act.put, bN, bP, bO]
 refine lU (i := 3) (by kernel_rfl) rfl fun K hK => ?_
 refine jK rfl (.tmp 7) (.tmp 148) rfl rfl n p bk ev dv rfl HF.out.z ⟨HB.out.F.M.one.1, HB.out.F.M.one.2, HB.out.F.G.one⟩ ?_
 intro W9 hN9 ho9
 have HX := Hd (lM HF.out HB.out ho9)
 have hS9 := (show QP W9 w.heap.size n p bk ev dv from ho9.at HF.out.h (by omega))
 refine hK.out _ _ hS9 (fun _ => ?_)
 clear hK K ho9
 simp only [Act.put]
 refine cW (i := 4) (v := .bool true) hS9 ?_
 exact gR
end
section
variable {s n c m q : Nat} {B : Bp} {p : Pt} {gv bk ev dv : Value} {K a v : Int} {gA : Value} {gs : List Int} {N : Int} {w : World}
theorem aP5 (A : Ar s n c m q B p gv bk ev dv a v gA gs N w) : DoC s n c m q p bk ev dv K a v gA N w := by
 by_cases h0 : K = 0
 . exact aOe A h0
 by_cases h1 : K = 1
 . exact aOf A h1
 by_cases h2 : K = 2
 . exact aOg A h2
 by_cases h3 : K = 3
 . by_cases hl : gs.length <= 64
   . exact aMY A h3 hl
   . exact aMZ A h3 (by omega)
 by_cases h4 : K = 4
 . exact aOh A h4
 by_cases h5 : K = 5
 . exact aOi A h5
 exact aOj A (by simpa using h0) (by simpa using h1) (by simpa using h2) (by simpa using h3) (by simpa using h4) (by simpa using h5)
end
section
variable {w0 w w' : World} {b r n c s m : Nat} {p : Pt} {bk ev gv : Value}
theorem jV.ft (F : jV w0 w b r n c p bk ev gv s) (po : p.ok m) (ok : p.x.ok n c) (st : p.x.still) (hm : m < 4294967290) : Fit s n c m p bk ev gv w := ⟨F.M, F.G, ok, st, po, hm, Nat.le_trans F.sb F.lo.size⟩
end
theorem aNw (s n c m h : Nat) (p : Pt) (bk ev gv : Value) (d : Int) (w : World) (F : Fit s n c m p bk ev gv w) (hm : m < 4294967200) (hn : h < n) (d0 : 0 <= d) (d1 : d < 18446744073709551616) (e1 : p.ste n c (ca h) 4294967295 = 13) :
 Calls prog 13 #[.agg (pl n p bk ev gv).toArray, .int .i64 h, .int .u64 d] w (oP n c (p.stp n c (ca h) 4294967295) gv (.int .i64 13) w) := by
 have h8 := F.ok.n8
 have HB := fZ d0 d1
 have cb := iY (show h < 8 by omega)
 have k1 := cV F.po F.ok F.st (by omega) (ca h) (v := 4294967295) (by decide) (by decide)
 have k2 := cV k1.1 k1.2.1 k1.2.2 (by omega) (ca h + 4) HB.1 HB.2
 have HF := Hd (iI w n c p bk ev gv s F.sb F.M F.G)
 have HL1 := Hd (fun bk ev w' F => lO s n c m p bk ev gv (ca h) 4294967295 cb.1 (by omega) (by decide) (by decide) w' F (by omega))
 rw [e1] at HL1
 have HT1 := Hd (fun bk ev w' (h : jV w w' w.heap.size (w.heap.size + 1) n c p bk ev gv s) => h.ft F.po F.ok F.st (by omega))
 have G1 := Hd (show (p.stp n c (ca h) 4294967295).gs = p.gs from gM _)
 have u1 : IntKind.u32.wrap (h : Int) = h := by rw [IntKind.wrap_u32]; omega
 have u2 : IntKind.u32.wrap (8 * (h : Int)) = 8 * h := by rw [IntKind.wrap_u32]; omega
 have u3 : IntKind.u32.wrap (33570816 + 8 * (h : Int)) = ca h := by unfold ca; rw [IntKind.wrap_u32]; omega
 have HH := Hd (fun w' => rHi d w' d0 d1)
 have HLO := Hd (fun w' => rLo d w' d0 d1)
 clear F hm hn h8 HB k1 k2 d0 d1 e1
 generalize (p.stp n c (ca h) 4294967295) = p1 at *
 generalize ca h = a at *
 have a0 := cb.1
 have a1 := cb.2
 clear cb
 go_enter func13, ntmps13
 go_upto_region 1 with (fail)
 rw [cP, bH]
 generalize (w.alloc (fW n p bk ev gv)).alloc dI = W at *
 generalize w.heap.size + 1 = r at *
 generalize hbn : w.heap.size = b at *
 clear hbn
 go_upto_region 3 with (first | (refine mN rfl (.tmp 3) rfl rfl HF.out.h ?_) | (go_at_call 33; refine (HL1.out _ _ _ (HT1.out _ _ _ HF.out)).mono ?_; rintro e w1 ⟨bk1, ev1, rfl, M', hb⟩; have HM := Hd M'; have HF := Hd (HF.out.below hb); clear M' hb HL1 HT1) | (refine nD rfl (.tmp 3) (.tmp 18) rfl rfl p1 bk1 ev1 gv n rfl HF.out.h.z ⟨HM.out.one.1, HM.out.one.2, HF.out.one.2.2⟩ ?_; intro x1 hq ho; have HF := Hd (jV.whole (p' := p1) HF.out HM.out G1.out hq ho); clear hq ho HM))
 clear u1 u2 u3
 go_wp2_with (first | (refine mN rfl (.tmp 3) rfl rfl HF.out.h ?_) | (refine nD rfl (.tmp 6) (.tmp 41) rfl rfl p1 _ _ gv n rfl HF.out.z HF.out.one ?_; intro w9 hq9 ho9; have HX := Hd (gJ HF.out ho9); have HQ9 := Hd hq9; clear hq9 ho9))
 exact jY
theorem aNx (s n c m h : Nat) (p : Pt) (bk ev gv : Value) (d : Int) (w : World) (F : Fit s n c m p bk ev gv w) (hm : m < 4294967200) (hn : h < n) (d0 : 0 <= d) (d1 : d < 18446744073709551616) (e1 : p.ste n c (ca h) 4294967295 = 0) (e2 : (p.stp n c (ca h) 4294967295).ste n c (ca h + 4) (hi d) = 13) :
 Calls prog 13 #[.agg (pl n p bk ev gv).toArray, .int .i64 h, .int .u64 d] w (oP n c ((p.stp n c (ca h) 4294967295).stp n c (ca h + 4) (hi d)) gv (.int .i64 13) w) := by
 have h8 := F.ok.n8
 have HB := fZ d0 d1
 have cb := iY (show h < 8 by omega)
 have k1 := cV F.po F.ok F.st (by omega) (ca h) (v := 4294967295) (by decide) (by decide)
 have k2 := cV k1.1 k1.2.1 k1.2.2 (by omega) (ca h + 4) HB.1 HB.2
 have HF := Hd (iI w n c p bk ev gv s F.sb F.M F.G)
 have HL1 := Hd (fun bk ev w' F => lO s n c m p bk ev gv (ca h) 4294967295 cb.1 (by omega) (by decide) (by decide) w' F (by omega))
 rw [e1] at HL1
 have HT1 := Hd (fun bk ev w' (h : jV w w' w.heap.size (w.heap.size + 1) n c p bk ev gv s) => h.ft F.po F.ok F.st (by omega))
 have G1 := Hd (show (p.stp n c (ca h) 4294967295).gs = p.gs from gM _)
 have HL2 := Hd (fun bk ev w' F => lO s n c (m + 1) (p.stp n c (ca h) 4294967295) bk ev gv (ca h + 4) (hi d) (by omega) (by omega) HB.1 HB.2 w' F (by omega))
 rw [e2] at HL2
 have HT2 := Hd (fun bk ev w' (h : jV w w' w.heap.size (w.heap.size + 1) n c (p.stp n c (ca h) 4294967295) bk ev gv s) => h.ft k1.1 k1.2.1 k1.2.2 (by omega))
 have G2 := Hd (show ((p.stp n c (ca h) 4294967295).stp n c (ca h + 4) (hi d)).gs = (p.stp n c (ca h) 4294967295).gs from gM _)
 have u1 : IntKind.u32.wrap (h : Int) = h := by rw [IntKind.wrap_u32]; omega
 have u2 : IntKind.u32.wrap (8 * (h : Int)) = 8 * h := by rw [IntKind.wrap_u32]; omega
 have u3 : IntKind.u32.wrap (33570816 + 8 * (h : Int)) = ca h := by unfold ca; rw [IntKind.wrap_u32]; omega
 have HH := Hd (fun w' => rHi d w' d0 d1)
 have HLO := Hd (fun w' => rLo d w' d0 d1)
 clear F hm hn h8 HB k1 k2 d0 d1 e1 e2
 generalize ((p.stp n c (ca h) 4294967295).stp n c (ca h + 4) (hi d)) = p2 at *
 generalize (p.stp n c (ca h) 4294967295) = p1 at *
 generalize ca h = a at *
 have a0 := cb.1
 have a1 := cb.2
 clear cb
 go_enter func13, ntmps13
 go_upto_region 1 with (fail)
 rw [cP, bH]
 generalize (w.alloc (fW n p bk ev gv)).alloc dI = W at *
 generalize w.heap.size + 1 = r at *
 generalize hbn : w.heap.size = b at *
 clear hbn
 go_upto_region 3 with (first | (refine mN rfl (.tmp 3) rfl rfl HF.out.h ?_) | (go_at_call 33; refine (HL1.out _ _ _ (HT1.out _ _ _ HF.out)).mono ?_; rintro e w1 ⟨bk1, ev1, rfl, M', hb⟩; have HM := Hd M'; have HF := Hd (HF.out.below hb); clear M' hb HL1 HT1) | (refine nD rfl (.tmp 3) (.tmp 18) rfl rfl p1 bk1 ev1 gv n rfl HF.out.h.z ⟨HM.out.one.1, HM.out.one.2, HF.out.one.2.2⟩ ?_; intro x1 hq ho; have HF := Hd (jV.whole (p' := p1) HF.out HM.out G1.out hq ho); clear hq ho HM))
 clear u1 u2 u3
 go_upto_region 4 with (fail)
 refine cY 5 (by kernel_rfl) (by kernel_rfl) (by intro _ _ d _ _ h; cases d <;> exact h) ?_
 simp only [List.take_succ_cons, List.take_zero, List.drop_succ_cons, List.drop_zero]
 repeat (first
  | go_big_quiet_skip
  | (go_big_quiet_want; first
   | (refine uW (.tmp 3) rfl rfl HF.out.h.grown ?_; go_simp; go_big_quiet_on)
   | (go_big_quiet_op; first | go_big_quiet_on | go_big_quiet_call (first | (go_at_call 34; exact Calls.regrown_of ((HH.out _).mono fun _ _ h => ⟨h.1, h.2 ▸ aH _⟩))))))
 refine wpQuiet_nil ?_
 intro _ hw'
 obtain ⟨⟨dq, osq⟩, hw''⟩ := hw'
 subst hw''
 have HF := Hd (HF.out.below (below_regrown _ dq osq))
 dsimp only at HF ⊢
 generalize grow (redrawn _ dq) osq = W4 at *
 go_upto_region 5 with (first | (go_at_call 33; refine (HL2.out _ _ _ (HT2.out _ _ _ HF.out)).mono ?_; rintro e w2 ⟨bk2, ev2, rfl, M', hb⟩; have HM := Hd M'; have HF := Hd (HF.out.below hb); clear M' hb HL2 HT2) | (refine nD rfl (.tmp 3) (.tmp 29) rfl rfl p2 bk2 ev2 gv n rfl HF.out.h.z ⟨HM.out.one.1, HM.out.one.2, HF.out.one.2.2⟩ ?_; intro x2 hq ho; have HF := Hd (jV.whole (p' := p2) HF.out HM.out G2.out hq ho); clear hq ho HM))
 go_wp2_with (first | (refine mN rfl (.tmp 3) rfl rfl HF.out.h ?_) | (refine nD rfl (.tmp 6) (.tmp 41) rfl rfl p2 _ _ gv n rfl HF.out.z HF.out.one ?_; intro w9 hq9 ho9; have HX := Hd (gJ HF.out ho9); have HQ9 := Hd hq9; clear hq9 ho9))
 exact jY
theorem aNy (s n c m h : Nat) (p : Pt) (bk ev gv : Value) (d : Int) (w : World) (F : Fit s n c m p bk ev gv w) (hm : m < 4294967200) (hn : h < n) (d0 : 0 <= d) (d1 : d < 18446744073709551616) (E : Int) (e1 : p.ste n c (ca h) 4294967295 = 0) (e2 : (p.stp n c (ca h) 4294967295).ste n c (ca h + 4) (hi d) = 0) (e3 : ((p.stp n c (ca h) 4294967295).stp n c (ca h + 4) (hi d)).ste n c (ca h) (lo d) = E) :
 Calls prog 13 #[.agg (pl n p bk ev gv).toArray, .int .i64 h, .int .u64 d] w (oP n c (((p.stp n c (ca h) 4294967295).stp n c (ca h + 4) (hi d)).stp n c (ca h) (lo d)) gv (.int .i64 E) w) := by
 have h8 := F.ok.n8
 have HB := fZ d0 d1
 have cb := iY (show h < 8 by omega)
 have k1 := cV F.po F.ok F.st (by omega) (ca h) (v := 4294967295) (by decide) (by decide)
 have k2 := cV k1.1 k1.2.1 k1.2.2 (by omega) (ca h + 4) HB.1 HB.2
 have HF := Hd (iI w n c p bk ev gv s F.sb F.M F.G)
 have HL1 := Hd (fun bk ev w' F => lO s n c m p bk ev gv (ca h) 4294967295 cb.1 (by omega) (by decide) (by decide) w' F (by omega))
 rw [e1] at HL1
 have HT1 := Hd (fun bk ev w' (h : jV w w' w.heap.size (w.heap.size + 1) n c p bk ev gv s) => h.ft F.po F.ok F.st (by omega))
 have G1 := Hd (show (p.stp n c (ca h) 4294967295).gs = p.gs from gM _)
 have HL2 := Hd (fun bk ev w' F => lO s n c (m + 1) (p.stp n c (ca h) 4294967295) bk ev gv (ca h + 4) (hi d) (by omega) (by omega) HB.1 HB.2 w' F (by omega))
 rw [e2] at HL2
 have HT2 := Hd (fun bk ev w' (h : jV w w' w.heap.size (w.heap.size + 1) n c (p.stp n c (ca h) 4294967295) bk ev gv s) => h.ft k1.1 k1.2.1 k1.2.2 (by omega))
 have G2 := Hd (show ((p.stp n c (ca h) 4294967295).stp n c (ca h + 4) (hi d)).gs = (p.stp n c (ca h) 4294967295).gs from gM _)
 have HL3 := Hd (fun bk ev w' F => lO s n c (m + 2) ((p.stp n c (ca h) 4294967295).stp n c (ca h + 4) (hi d)) bk ev gv (ca h) (lo d) cb.1 (by omega) (dQ d) (mF d) w' F (by omega))
 rw [e3] at HL3
 have HT3 := Hd (fun bk ev w' (h : jV w w' w.heap.size (w.heap.size + 1) n c ((p.stp n c (ca h) 4294967295).stp n c (ca h + 4) (hi d)) bk ev gv s) => h.ft k2.1 k2.2.1 k2.2.2 (by omega))
 have G3 := Hd (show (((p.stp n c (ca h) 4294967295).stp n c (ca h + 4) (hi d)).stp n c (ca h) (lo d)).gs = ((p.stp n c (ca h) 4294967295).stp n c (ca h + 4) (hi d)).gs from gM _)
 have u1 : IntKind.u32.wrap (h : Int) = h := by rw [IntKind.wrap_u32]; omega
 have u2 : IntKind.u32.wrap (8 * (h : Int)) = 8 * h := by rw [IntKind.wrap_u32]; omega
 have u3 : IntKind.u32.wrap (33570816 + 8 * (h : Int)) = ca h := by unfold ca; rw [IntKind.wrap_u32]; omega
 have HH := Hd (fun w' => rHi d w' d0 d1)
 have HLO := Hd (fun w' => rLo d w' d0 d1)
 clear F hm hn h8 HB k1 k2 d0 d1 e1 e2 e3
 generalize (((p.stp n c (ca h) 4294967295).stp n c (ca h + 4) (hi d)).stp n c (ca h) (lo d)) = p3 at *
 generalize ((p.stp n c (ca h) 4294967295).stp n c (ca h + 4) (hi d)) = p2 at *
 generalize (p.stp n c (ca h) 4294967295) = p1 at *
 generalize ca h = a at *
 have a0 := cb.1
 have a1 := cb.2
 clear cb
 go_enter func13, ntmps13
 go_upto_region 1 with (fail)
 rw [cP, bH]
 generalize (w.alloc (fW n p bk ev gv)).alloc dI = W at *
 generalize w.heap.size + 1 = r at *
 generalize hbn : w.heap.size = b at *
 clear hbn
 go_upto_region 3 with (first | (refine mN rfl (.tmp 3) rfl rfl HF.out.h ?_) | (go_at_call 33; refine (HL1.out _ _ _ (HT1.out _ _ _ HF.out)).mono ?_; rintro e w1 ⟨bk1, ev1, rfl, M', hb⟩; have HM := Hd M'; have HF := Hd (HF.out.below hb); clear M' hb HL1 HT1) | (refine nD rfl (.tmp 3) (.tmp 18) rfl rfl p1 bk1 ev1 gv n rfl HF.out.h.z ⟨HM.out.one.1, HM.out.one.2, HF.out.one.2.2⟩ ?_; intro x1 hq ho; have HF := Hd (jV.whole (p' := p1) HF.out HM.out G1.out hq ho); clear hq ho HM))
 clear u1 u2 u3
 go_upto_region 4 with (fail)
 refine cY 5 (by kernel_rfl) (by kernel_rfl) (by intro _ _ d _ _ h; cases d <;> exact h) ?_
 simp only [List.take_succ_cons, List.take_zero, List.drop_succ_cons, List.drop_zero]
 repeat (first
  | go_big_quiet_skip
  | (go_big_quiet_want; first
   | (refine uW (.tmp 3) rfl rfl HF.out.h.grown ?_; go_simp; go_big_quiet_on)
   | (go_big_quiet_op; first | go_big_quiet_on | go_big_quiet_call (first | (go_at_call 34; exact Calls.regrown_of ((HH.out _).mono fun _ _ h => ⟨h.1, h.2 ▸ aH _⟩))))))
 refine wpQuiet_nil ?_
 intro _ hw'
 obtain ⟨⟨dq, osq⟩, hw''⟩ := hw'
 subst hw''
 have HF := Hd (HF.out.below (below_regrown _ dq osq))
 dsimp only at HF ⊢
 generalize grow (redrawn _ dq) osq = W4 at *
 go_upto_region 5 with (first | (go_at_call 33; refine (HL2.out _ _ _ (HT2.out _ _ _ HF.out)).mono ?_; rintro e w2 ⟨bk2, ev2, rfl, M', hb⟩; have HM := Hd M'; have HF := Hd (HF.out.below hb); clear M' hb HL2 HT2) | (refine nD rfl (.tmp 3) (.tmp 29) rfl rfl p2 bk2 ev2 gv n rfl HF.out.h.z ⟨HM.out.one.1, HM.out.one.2, HF.out.one.2.2⟩ ?_; intro x2 hq ho; have HF := Hd (jV.whole (p' := p2) HF.out HM.out G2.out hq ho); clear hq ho HM))
 go_upto_region 6 with (fail)
 refine cY 4 (by kernel_rfl) (by kernel_rfl) (by intro _ _ d _ _ h; cases d <;> exact h) ?_
 simp only [List.take_succ_cons, List.take_zero, List.drop_succ_cons, List.drop_zero]
 repeat (first
  | go_big_quiet_skip
  | (go_big_quiet_want; first
   | (refine uW (.tmp 3) rfl rfl HF.out.h.grown ?_; go_simp; go_big_quiet_on)
   | (go_big_quiet_op; first | go_big_quiet_on | go_big_quiet_call (first | (go_at_call 35; exact Calls.regrown_of ((HLO.out _).mono fun _ _ h => ⟨h.1, h.2 ▸ aH _⟩))))))
 refine wpQuiet_nil ?_
 intro _ hw'
 obtain ⟨⟨dq, osq⟩, hw''⟩ := hw'
 subst hw''
 have HF := Hd (HF.out.below (below_regrown _ dq osq))
 dsimp only at HF ⊢
 generalize grow (redrawn _ dq) osq = W6 at *
 go_upto_region 7 with (first | (go_at_call 33; refine (HL3.out _ _ _ (HT3.out _ _ _ HF.out)).mono ?_; rintro e w3 ⟨bk3, ev3, rfl, M', hb⟩; have HM := Hd M'; have HF := Hd (HF.out.below hb); clear M' hb HL3 HT3) | (refine nD rfl (.tmp 3) (.tmp 39) rfl rfl p3 bk3 ev3 gv n rfl HF.out.h.z ⟨HM.out.one.1, HM.out.one.2, HF.out.one.2.2⟩ ?_; intro x3 hq ho; have HF := Hd (jV.whole (p' := p3) HF.out HM.out G3.out hq ho); clear hq ho HM))
 go_wp2_with (first | (refine mN rfl (.tmp 3) rfl rfl HF.out.h ?_) | (refine nD rfl (.tmp 6) (.tmp 41) rfl rfl p3 _ _ gv n rfl HF.out.z HF.out.one ?_; intro w9 hq9 ho9; have HX := Hd (gJ HF.out ho9); have HQ9 := Hd hq9; clear hq9 ho9))
 exact jY
theorem aPc (s n c m h : Nat) (p : Pt) (bk ev gv : Value) (d : Int) (w : World) (F : Fit s n c m p bk ev gv w) (hm : m < 4294967200) (hn : h < n) (d0 : 0 <= d) (d1 : d < 18446744073709551616) :
 Calls prog 13 #[.agg (pl n p bk ev gv).toArray, .int .i64 h, .int .u64 d] w (oP n c (p.arm n c h d).p gv (.int .i64 (p.arm n c h d).e) w) := by
 have h8 := F.ok.n8
 unfold Pt.arm
 rcases gX (p := p) (c := c) (v := 4294967295) hn h8 (.inl rfl) with e1 | e1
 . rw [if_pos e1]
   rcases gX (p := p.stp n c (ca h) 4294967295) (c := c) (v := hi d) hn h8 (.inr rfl) with e2 | e2
   . rw [if_pos e2]
     exact aNy s n c m h p bk ev gv d w F hm hn d0 d1 _ e1 e2 rfl
   . rw [if_neg (by rw [e2]; decide), e2]
     exact aNx s n c m h p bk ev gv d w F hm hn d0 d1 e1 e2
 . rw [if_neg (by rw [e1]; decide), e1]
   exact aNw s n c m h p bk ev gv d w F hm hn d0 d1 e1
structure jM (w0 w : World) (mb n k q : Nat) (C : Bp) (p : Pt) (gv bk ev dv : Value) (c h : Nat) (l : Int) : Prop where
 P : P12 w0 w mb n 1 k q C p gv bk ev dv
 K : gD w c q h l
 hc : w0.heap.size <= c
 hn : h < n
structure M14 (w0 w : World) (mb n k q : Nat) (C : Bp) (p p2 : Pt) (gv bk ev dv : Value) (c h : Nat) (l : Int) : Prop where
 H : aT w q C p2 gv
 nw : C.new w0.heap.size
 sq : w0.heap.size <= q
 en : C.n = n
 ec : C.c = 1
 F : Fit w0.heap.size n 1 k p bk ev dv w
 N : QP w mb n p bk ev dv
 K : gD w c q h l
 lo : Below w0.heap.size w0 w
 hp : w0.heap.size <= mb
 hc : w0.heap.size <= c
 hn : h < n
section
variable {w0 w w' : World} {mb n k q c h : Nat} {C : Bp} {p p2 : Pt} {gv bk ev dv bk' ev' : Value} {l l2 d e : Int}
theorem jM.below (R : jM w0 w mb n k q C p gv bk ev dv c h l) (hb : Below w.heap.size w w') : jM w0 w' mb n k q C p gv bk ev dv c h l := ⟨R.P.below hb, R.K.below hb, R.hc, R.hn⟩
theorem M14.below (X : M14 w0 w mb n k q C p p2 gv bk ev dv c h l) (hb : Below w.heap.size w w') : M14 w0 w' mb n k q C p p2 gv bk ev dv c h l := ⟨X.H.below hb, X.nw, X.sq, X.en, X.ec, X.F.below hb, X.N.below hb, X.K.below hb, tr X.lo hb, X.hp, X.hc, X.hn⟩
theorem aDm {b y : Nat} {x : Bx} {cs : Array Value} (M : MV w y x bk ev) (ho : aF (· = b) w w') (h : w.heap[b]? = some (.cells cs tSh (0, 0))) : MV w' y x bk ev := by
 exact wG
theorem aDW {s b : Nat} {gs : List Int} {cs : Array Value} (G : jW s w gv gs) (hs : s <= b) (ho : aF (· = b) w w') (h : w.heap[b]? = some (.cells cs tSh (0, 0))) : jW s w' gv gs :=
 G.off ho fun k _ hk e => by
  rcases hk with hk | hk
  . omega
  . rw [e, bT h] at hk; revert hk; decide
theorem QP.offS {b : Nat} {cs : Array Value} (N : QP w mb n p bk ev dv) (ho : aF (· = b) w w') (h : w.heap[b]? = some (.cells cs tSh (0, 0))) : QP w' mb n p bk ev dv := ho.at N fun e => aI N h (by decide) e
theorem gD.offP {cs : Array Value} (K : gD w c q h l) (ho : aF (· = mb) w w') (hm : w.heap[mb]? = some (.cells cs aBi (0, 0))) : gD w' c q h l := ho.at K fun e => aI K hm (by decide) e
theorem jM.left (R : jM w0 w mb n k q C p gv bk ev dv c h l) (L : aDN q C p2 gv c h l2 w w') : ∃ C2, M14 w0 w' mb n k q C2 p p2 gv bk ev dv c h l2 := by
 obtain ⟨w1, l1, L1, K1, rfl⟩ := L
 obtain ⟨C2, LC⟩ := L1.lp R.P.bo.H R.P.bo.nw R.P.bo.sq R.P.lo.size
 have ho := aG w1 c 2 (.int .u64 l2)
 have hs := Nat.le_trans (R.P.lo.trans LC.lo).size ho.size
 exact ⟨C2, LC.h.offk ho K1 (by decide) rfl (by decide), LC.nw, R.P.bo.sq, LC.n.trans R.P.bo.en, LC.c.trans R.P.bo.ec,
  ⟨aDm (R.P.bo.F.M.kq LC.kq) ho K1, aDW (R.P.bo.F.G.kq LC.kq LC.lo) R.hc ho K1, R.P.bo.F.ok, R.P.bo.F.st, R.P.bo.F.po, R.P.bo.F.hm, hs⟩,
  (R.P.N.kq LC.kq).offS ho K1, K1.set l2, aF.toBelow (R.P.lo.trans LC.lo) ho (fun j hj e => by have := R.hc; omega) (Nat.le_refl _), R.P.hp, R.hc, R.hn⟩
theorem jM.arm (R : jM w0 w mb n k q C p gv bk ev dv c h l) (hk : k < 4294967000) (d0 : 0 <= d) (d1 : d < 18446744073709551616) {r : Am} (hr : p.arm n 1 h d = r) :
 Calls prog 12 #[.pointer (some ⟨c, 0, none⟩), .int .u64 d] w fun e w' => e = .returned (.int .i64 r.e) /\ ∃ C2, M14 w0 w' mb n k q C2 p r.p gv bk ev dv c h (lP d r.e) := by
 have a := aC7 q c h k C p gv l d w R.P.bo.H R.K R.P.bo.F.po (by omega) (by rw [R.P.bo.en]; exact R.hn) d0 d1
 rw [R.P.bo.en, R.P.bo.ec, hr] at a
 exact a.mono fun e w' ⟨he, L⟩ => ⟨he, R.left L⟩
theorem jM.dis (R : jM w0 w mb n k q C p gv bk ev dv c h l) (hk : k < 4294967000) {r : Am} (hr : p.arm n 1 h 18446744073709551615 = r) :
 Calls prog 11 #[.pointer (some ⟨c, 0, none⟩)] w fun e w' => e = .returned (.int .i64 r.e) /\ ∃ C2, M14 w0 w' mb n k q C2 p r.p gv bk ev dv c h (lP 18446744073709551615 r.e) := by
 have a := aBf q c h k C p gv l w R.P.bo.H R.K R.P.bo.F.po (by omega) (by rw [R.P.bo.en]; exact R.hn)
 rw [R.P.bo.en, R.P.bo.ec, hr] at a
 exact a.mono fun e w' ⟨he, L⟩ => ⟨he, R.left L⟩
theorem M14.doc (X : M14 w0 w mb n k q C p p2 gv bk ev dv c h l) (hk : k < 4294967000) (d0 : 0 <= d) (d1 : d < 18446744073709551616) {r : Am} (hr : p.arm n 1 h d = r) :
 Calls prog 13 #[.agg (pl n p bk ev dv).toArray, .int .i64 h, .int .u64 d] w (oP n 1 r.p dv (.int .i64 r.e) w) := by
 have a := aPc w0.heap.size n 1 k h p bk ev dv d w X.F (by omega) X.hn d0 d1
 rw [hr] at a
 exact a
theorem M14.done (X : M14 w0 w mb n k q C p p2 gv bk ev dv c h l) (A : aKy n 1 (k + 3) p ⟨p2, e⟩) (hk : k < 4294967000) (M : MV w 1 p2.x bk' ev') (hq : QP w' mb n p2 bk' ev' dv) (ho : aF (· = mb) w w') : jM w0 w' mb n (k + 3) q C p2 gv bk' ev' dv c h l :=
 ⟨⟨⟨X.H.offk ho X.N (by decide) rfl (by decide), X.nw, X.sq, X.en, X.ec, ⟨oF M ho X.N, (show p2.gs = p.gs from A.gs) ▸ pX X.F.G X.hp ho X.N, A.ok, A.st, A.po, by omega, Nat.le_trans X.lo.size ho.size⟩⟩, hq, aF.toBelow X.lo ho (fun j hj e => by have := X.hp; omega) (Nat.le_refl _), X.hp⟩, X.K.offP ho X.N, X.hc, X.hn⟩
theorem jM.amok (R : jM w0 w mb n k q C p gv bk ev dv c h l) (hk : k < 4294967000) (d0 : 0 <= d) (d1 : d < 18446744073709551616) {r : Am} (hr : p.arm n 1 h d = r) : aKy n 1 (k + 3) p r := by
 have a := zG (n := n) (c := 1) R.P.bo.F.po R.P.bo.F.ok R.P.bo.F.st (by omega) R.hn d0 d1
 rw [hr] at a
 exact a
theorem jM.le {j : Nat} (R : jM w0 w mb n k q C p gv bk ev dv c h l) (hk : k <= j) (hj : j < 4294967290) : jM w0 w mb n j q C p gv bk ev dv c h l := ⟨⟨R.P.bo.le hk hj, R.P.N, R.P.lo, R.P.hp⟩, R.K, R.hc, R.hn⟩
theorem jM.lost (R : jM w0 w mb n k q C p gv bk ev dv c h l) :
 Calls prog 14 #[.pointer (some ⟨c, 0, none⟩)] w fun e w' => e = .returned (.tuple #[]) /\ jM w0 w' mb n k q C p gv bk ev dv c h 18446744073709551615 := by
 refine (aHc R.K).mono ?_
 rintro e w' ⟨rfl, rfl⟩
 have ho := aG w c 2 (.int .u64 18446744073709551615)
 have K := R.K
 exact ⟨rfl, ⟨⟨R.P.bo.H.offk ho K (by decide) rfl (by decide), R.P.bo.nw, R.P.bo.sq, R.P.bo.en, R.P.bo.ec, ⟨aDm R.P.bo.F.M ho K, aDW R.P.bo.F.G R.hc ho K, R.P.bo.F.ok, R.P.bo.F.st, R.P.bo.F.po, R.P.bo.F.hm, Nat.le_trans R.P.lo.size ho.size⟩⟩, R.P.N.offS ho K, aF.toBelow R.P.lo ho (fun j hj e => by have := R.hc; omega) (Nat.le_refl _), R.P.hp⟩, K.set _, R.hc, R.hn⟩
theorem jM.alike (R : jM w0 w mb n k q C p gv bk ev dv c h l) :
 Calls prog 19 #[.pointer (some ⟨q, 0, none⟩), .agg (pl n p bk ev dv).toArray] w fun e w' => e = .returned (.bool true) /\ Below w.heap.size w w' := by
 have := aDs q C p gv w0.heap.size k bk ev dv w R.P.bo.H (by rw [R.P.bo.en, R.P.bo.ec]; exact R.P.bo.F)
 rw [R.P.bo.en] at this
 exact this
theorem jM.pend (R : jM w0 w mb n k q C p gv bk ev dv c h l) {bb : Bool} (hb : oR p.x.ti n p.x.D h = bb) :
 Calls prog 17 #[.pointer (some ⟨c, 0, none⟩)] w fun e w' => e = .returned (.bool bb) /\ Below w.heap.size w w' := by
 have := yQ R.P.bo.H R.K
 rw [R.P.bo.en, hb] at this
 exact this
theorem jM.armed (R : jM w0 w mb n k q C p gv bk ev dv c h l) :
 Calls prog 16 #[.pointer (some ⟨c, 0, none⟩)] w fun e w' => e = .returned (.int .u64 l) /\ Below w.heap.size w w' := (aAS R.K).mono fun _ _ h => ⟨h.1, h.2 ▸ aH _⟩
theorem jM.line (R : jM w0 w mb n k q C p gv bk ev dv c h l) {bb : Bool} (hb : oR p.x.ti n p.x.D h = bb) (w1 : World) :
 Calls prog 18 #[.agg (gC p.x.ti n p.x.D p.x.S).toArray, .int .i64 h] w1 fun e w' => e = .returned (.bool bb) /\ Below w1.heap.size w1 w' := by
 have := aCz h p.x.ti n p.x.D p.x.S w1 R.P.bo.F.ok.n8 R.P.bo.F.ok.d
 rw [hb] at this
 exact this
theorem aG6 (n : Nat) (p : Pt) (bk ev gv : Value) : eM (pl n p bk ev gv).toArray 0 (gC p.x.ti n p.x.D p.x.S) := by
 unfold pl ml
 rw [List.append_assoc]
 exact lG _ _
theorem uX {o : Oper} {a : Act} {C : World -> Prop} {K : Act -> Prop} {b : Nat} (y : Operand) (ho : o.op = .load 29 y) (hx : a.eval y = .pointer (some ⟨b, 0, none⟩)) (hg : ∀ w, C w -> QP w b n p bk ev gv) (h : K (a.put o.dst (.agg (gC p.x.ti n p.x.D p.x.S).toArray))) : o.quiet prog a C K :=
 bD _ y ho b 0 hx _ (gC p.x.ti n p.x.D p.x.S) (fun w hw => hg w hw) underlying29 rfl (by rw [show (gC p.x.ti n p.x.D p.x.S).length = 26 from fO _ _ _ _]; exact iC) (aG6 n p bk ev gv) h
end
abbrev aQB : TypeId := 54
def aIE (K D K2 a v : Int) (gA : Value) (N : Int) : Obj := .cells #[.int .i64 K, .int .u64 D, .int .i64 K2, .int .u32 a, .int .u32 v, gA, .int .u64 N] aQB (0, 0)
def aPR (w : World) (b o : Nat) : Prop := ∃ (K D K2 a v : Int) (y : Option Addr) (len cap : Nat) (N : Int), w.cell? ⟨b, o, none⟩ = some (.int .i64 K) /\ w.cell? ⟨b, o + 1, none⟩ = some (.int .u64 D) /\ w.cell? ⟨b, o + 2, none⟩ = some (.int .i64 K2) /\ w.cell? ⟨b, o + 3, none⟩ = some (.int .u32 a) /\ w.cell? ⟨b, o + 4, none⟩ = some (.int .u32 v) /\ w.cell? ⟨b, o + 5, none⟩ = some (.slice y len cap) /\ w.cell? ⟨b, o + 6, none⟩ = some (.int .u64 N) /\ qT w y len cap /\
 (0 <= D /\ D < 18446744073709551616) /\ (0 <= a /\ a < 4294967296) /\ (0 <= v /\ v < 4294967296) /\ (0 <= N /\ N < 18446744073709551616)
def aE9 (w : World) (y : Option Addr) (len cap : Nat) : Prop := len = 0 \/ ∃ b off, y = some ⟨b, off, none⟩ /\ len <= cap /\ cap <= maxLen /\ b < w.heap.size /\ ∀ i, i < cap -> aPR w b (off + i * 7)
abbrev aKk : Sh := .pair (.int .i64) (.pair (.int .u64) (.pair aKj .unit))
theorem aB6 {w : World} {x : Value} (h : FitsV w (.slice aKk) x) : ∃ (y : Option Addr) (len cap : Nat), x = .slice y len cap /\ aE9 w y len cap := by
 obtain ⟨y, len, cap, rfl, hy⟩ := fits_slice h (by simp [Sh.size])
 refine ⟨y, len, cap, rfl, ?_⟩
 rcases hy with hy | ⟨b, off, rfl, hl, hm, hb, hz⟩
 . exact .inl hy
 refine .inr ⟨b, off, rfl, hl, hm, hb, fun i hi => ?_⟩
 obtain ⟨cs, hcl, hcell, hf⟩ := hz i hi
 obtain ⟨_, _, rfl, ⟨K, rfl, hK⟩, _, _, rfl, ⟨D, rfl, hD⟩, c3, _, rfl, h3, rfl⟩ := hf
 obtain ⟨K2, a, v, gy, gl, gc, N, rfl, hr, hk2, ha, hv, hn⟩ := aCY h3
 have e0 := hcell 0 (by simp [Sh.size])
 have e1 := hcell 1 (by simp [Sh.size])
 have e2 := hcell 2 (by simp [Sh.size])
 have e3 := hcell 3 (by simp [Sh.size])
 have e4 := hcell 4 (by simp [Sh.size])
 have e5 := hcell 5 (by simp [Sh.size])
 have e6 := hcell 6 (by simp [Sh.size])
 simp only [Sh.size] at e0 e1 e2 e3 e4 e5 e6
 have d1 := bounds_u64 hD
 exact ⟨K, D, K2, a, v, gy, gl, gc, N, e0, e1, e2, e3, e4, e5, e6, hr, by omega, ha, hv, hn⟩
end Go.Proofs.YtaohacadochldaaGreat.B
