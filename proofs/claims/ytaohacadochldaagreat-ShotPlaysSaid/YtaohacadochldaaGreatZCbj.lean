/- A part of the proof of a law of layer 12: bj. -/
import Derived.Test.YtaohacadochldaaGreatZCaj
set_option linter.unusedVariables false
set_option linter.unusedSimpArgs false
set_option maxHeartbeats 12800000
set_option maxRecDepth 100000
namespace Go.Proofs.YtaohacadochldaaGreat.B
open Go.Proofs.Tryz
open Go.ChangeShapes Go.WideShapes Go.RowKit Go.Sort
theorem aEv {o : Int} (h : (o % 4 != 0) = true) : bF o = 11 := by unfold bF; rw [if_pos (by simpa using h)]
theorem aEu {o : Int} (h : (o % 4 != 0) = false) (k : 36 <= o) : bF o = 10 := by unfold bF; rw [if_neg (by simpa using h), if_pos k]
theorem aHZ {o : Int} (h : (o % 4 != 0) = false) (k : ¬ 36 <= o) : bF o = 0 := by unfold bF; rw [if_neg (by simpa using h), if_neg k]
theorem Rk.valE_none (t : Rk) {o : Int} (h : bF o ≠ 0) : t.valE o = 0 := by unfold Rk.valE; rw [if_neg h]
theorem xP {P : Prop} (h : P := by
 clear hb
 cases b
 all_goals
  go_enter func132, ntmps132
  go_upto_region 1 with (fail)
  rw [eV]
  generalize w.alloc (oK t) = W at *
  go_wp2_with fail
  go_ret2
  exact ⟨rfl, hB⟩
 ) : P := h
theorem xB {P : Prop} (h : P := by
 clear hv he
 go_enter func132, ntmps132
 go_upto_region 1 with (fail)
 rw [eV]
 generalize w.alloc (oK t) = W at *
 go_wp2_with (first | (go_at_call 35; refine (HLo.out _).mono ?_; rintro e w' ⟨rfl, rfl⟩) | (go_at_call 34; refine (HHi.out _).mono ?_; rintro e w' ⟨rfl, rfl⟩))
 go_ret2
 exact ⟨rfl, hB⟩
 ) : P := h
theorem iT {P : Prop} (h : P := by
 go_enter func132, ntmps132
 go_upto_region 1 with (fail)
 rw [eV]
 generalize w.alloc (oK t) = W at *
 go_wp2_with fail
 go_ret2
 exact ⟨rfl, hB⟩
 ) : P := h
theorem mD (t : Rk) (o : Int) (w : World) (h : t.ok) (o0 : 0 <= o) (o1 : o < 4294967296) :
 Calls prog 132 #[.agg (kl t).toArray, .int .u32 o] w fun e w' => e = .returned (.tuple #[.int .u32 (t.valE o), .int .i64 (bF o)]) /\ Below w.heap.size w w' := by
 have hB := aE (aH w) (oK t)
 have X : bL (w.alloc (oK t)) w.heap.size t := aD w (oK t)
 have x0 := X.c0
 have x2 := X.c2
 have x3 := X.c3
 have x4 := X.c4
 have x5 := X.c5
 have x6 := X.c6
 have x7 := X.c7
 have HLo := Hd (fun w => rLo t.sec w h.s0 h.s1)
 have HHi := Hd (fun w => rHi t.sec w h.s0 h.s1)
 clear h
 by_cases he : bF o = 0
 . rcases lW o0 he with rfl | rfl | rfl | rfl | rfl | rfl | rfl | rfl | rfl
   . have hv : t.valE 0 = lo t.sec := rfl
     rw [hv, show bF 0 = 0 from rfl]
     exact xB
   . have hv : t.valE 4 = hi t.sec := rfl
     rw [hv, show bF 4 = 0 from rfl]
     exact xB
   . have hv : t.valE 8 = t.set := rfl
     rw [hv, show bF 8 = 0 from rfl]
     clear hv he
     exact iT
   . have hv : t.valE 12 = 0 := rfl
     rw [hv, show bF 12 = 0 from rfl]
     clear hv he
     exact iT
   . have hv : t.valE 16 = t.al := rfl
     rw [hv, show bF 16 = 0 from rfl]
     clear hv he
     exact iT
   . have hv : t.valE 20 = t.ah := rfl
     rw [hv, show bF 20 = 0 from rfl]
     clear hv he
     exact iT
   . have hv : t.valE 24 = tk t.en := rfl
     rw [hv, show bF 24 = 0 from rfl]
     clear hv he
     obtain ⟨b, hb⟩ : ∃ b, t.en = b := ⟨_, rfl⟩
     rw [hb]
     rw [hb] at x6
     exact xP
   . have hv : t.valE 28 = tk t.st := rfl
     rw [hv, show bF 28 = 0 from rfl]
     clear hv he
     obtain ⟨b, hb⟩ : ∃ b, t.st = b := ⟨_, rfl⟩
     rw [hb]
     rw [hb] at x7
     exact xP
   . have hv : t.valE 32 = t.div := rfl
     rw [hv, show bF 32 = 0 from rfl]
     clear hv he
     exact iT
 . rw [Rk.valE_none t he]
   cases h4 : (o % 4 != 0)
   . by_cases h8 : 36 <= o
     . rw [aEu h4 h8]
       have q0 : (o == 0) = false := by simp; omega
       have q4 : (o == 4) = false := by simp; omega
       have q8 : (o == 8) = false := by simp; omega
       have q12 : (o == 12) = false := by simp; omega
       have q16 : (o == 16) = false := by simp; omega
       have q20 : (o == 20) = false := by simp; omega
       have q24 : (o == 24) = false := by simp; omega
       have q28 : (o == 28) = false := by simp; omega
       have q32 : (o == 32) = false := by simp; omega
       clear he
       exact iT
     . exact absurd (aHZ h4 (by omega)) he
   . rw [aEv h4]
     clear he
     exact iT
abbrev pN (t : Rk) (o v : Int) (w : World) (e : Ending) (w' : World) : Prop := e = .returned (.tuple #[.agg (kl (t.sto o v)).toArray, .int .i64 (gY o)]) /\ Below w.heap.size w w'
theorem aHO {s t : Rk} {e f : Int} (h : s = t) (k : e = f) : Ending.returned (.tuple #[.agg (kl s).toArray, .int .i64 e]) = .returned (.tuple #[.agg (kl t).toArray, .int .i64 f]) := by rw [h, k]
theorem nE (t : Rk) {o v : Int} (h : o = 8 \/ o = 12 \/ o = 16 \/ o = 20 \/ o = 24 \/ o = 28) : t.sto o v = Rk.behind t (t.wr o v) := by unfold Rk.sto; rw [if_pos h]
theorem aHi (t : Rk) {o v : Int} (h : ¬ (o = 8 \/ o = 12 \/ o = 16 \/ o = 20 \/ o = 24 \/ o = 28)) : t.sto o v = t := by unfold Rk.sto; rw [if_neg h]
theorem aIk (t : Rk) (o v : Int) (w : World) (h : t.ok) (o0 : 0 <= o) (o1 : o < 4294967296) (v0 : 0 <= v) (v1 : v < 4294967296) (he : bF o ≠ 0) :
 Calls prog 126 #[.agg (kl t).toArray, .int .u32 o, .int .u32 v] w (pN t o v w) := by
 have hB0 := aE (aE (aH w) (oK t)) zK
 have X0 : bL ((w.alloc (oK t)).alloc zK) w.heap.size t := bM w (oK t) zK
 have G0 : bL ((w.alloc (oK t)).alloc zK) (w.heap.size + 1) mI := bU w (oK t) zK
 obtain ⟨E, hE⟩ : ∃ E, bF o = E := ⟨_, rfl⟩
 obtain ⟨V, hV⟩ : ∃ V, t.valE o = V := ⟨_, rfl⟩
 have hs : gY o = E := by unfold gY; rw [if_pos he, hE]
 have hn : ¬ (o = 8 \/ o = 12 \/ o = 16 \/ o = 20 \/ o = 24 \/ o = 28) := fun e => he (by rcases e with rfl | rfl | rfl | rfl | rfl | rfl <;> rfl)
 have HR := Hd (aHi (v := v) t hn).symm
 have HS := Hd hs.symm
 have HL := Hd (fun w => by have := mD t o w h o0 o1; rw [hV, hE] at this; exact this)
 rw [hE] at he
 have q0 : (E == 0) = false := by simpa using he
 have q1 : (E != 0) = true := by simpa using he
 clear hE hV hn hs he h
 go_enter func126, ntmps126
 go_upto_region 1 with (fail)
 rw [eV, dH]
 generalize ((w.alloc (oK t)).alloc zK) = W at *
 go_wp2_with (refine dF rfl (.tmp 3) rfl rfl X0 ?_)
 refine (HL.out _).mono ?_
 rintro e W1 ⟨rfl, hb⟩
 have X := X0.below hb
 have G := G0.below hb
 have hB := tr hB0 hb
 clear X0 G0 hB0 hb HL
 have R := bL.row G t
 have hB2 := aB hB (kl t).toArray (g := w.heap.size + 1) (by omega)
 go_wp2_with (first | (refine dF rfl (.tmp 3) rfl rfl X ?_) | (refine fL rfl (.tmp 6) (.tmp 19) rfl rfl (t := t) rfl G ?_))
 refine bodyPost_ret (aHN rfl _ _ _ rfl rfl R) rfl ⟨aHO HR.out HS.out, hB2⟩
theorem zX (t : Rk) (o v : Int) (w : World) (h : t.ok) (o0 : 0 <= o) (o1 : o < 4294967296) (v0 : 0 <= v) (v1 : v < 4294967296) (ho : o = 0 \/ o = 4 \/ o = 32) :
 Calls prog 126 #[.agg (kl t).toArray, .int .u32 o, .int .u32 v] w (pN t o v w) := by
 have hB0 := aE (aE (aH w) (oK t)) zK
 have X0 : bL ((w.alloc (oK t)).alloc zK) w.heap.size t := bM w (oK t) zK
 have G0 : bL ((w.alloc (oK t)).alloc zK) (w.heap.size + 1) mI := bU w (oK t) zK
 obtain ⟨V, hV⟩ : ∃ V, t.valE o = V := ⟨_, rfl⟩
 have he : bF o = 0 := by rcases ho with rfl | rfl | rfl <;> rfl
 have hs : gY o = 12 := by rcases ho with rfl | rfl | rfl <;> rfl
 have HR := Hd (aHi (v := v) t (o := o) (by omega)).symm
 have HS := Hd hs.symm
 have HL := Hd (fun w => by have := mD t o w h o0 o1; rw [hV, he] at this; exact this)
 have q8 : (o == 8) = false := by simp; omega
 have q12 : (o == 12) = false := by simp; omega
 have q16 : (o == 16) = false := by simp; omega
 have q20 : (o == 20) = false := by simp; omega
 have q24 : (o == 24) = false := by simp; omega
 have q28 : (o == 28) = false := by simp; omega
 clear hV he hs ho h
 go_enter func126, ntmps126
 go_upto_region 1 with (fail)
 rw [eV, dH]
 generalize ((w.alloc (oK t)).alloc zK) = W at *
 go_wp2_with (refine dF rfl (.tmp 3) rfl rfl X0 ?_)
 refine (HL.out _).mono ?_
 rintro e W1 ⟨rfl, hb⟩
 have X := X0.below hb
 have G := G0.below hb
 have hB := tr hB0 hb
 clear X0 G0 hB0 hb HL
 have hl := G.lt
 have X2 := X.below (aE (aH W1) zK)
 have G2 := G.below (aE (aH W1) zK)
 have Y2 : bL (W1.alloc zK) W1.heap.size mI := aD W1 zK
 have B2 := aE hB zK
 have hgg := hB.size
 go_upto_region 5 with (first | (refine dF rfl (.tmp 3) rfl rfl X ?_) | (refine fL rfl (.tmp 10) (.tmp 21) rfl rfl (t := t) rfl (by rw [dH]; exact Y2) ?_))
 rw [dH]
 have Y3 := bL.row Y2 t
 have X3 := X2.elseRow W1.heap.size (kl t).toArray (by omega)
 have G3 := G2.elseRow W1.heap.size (kl t).toArray (by omega)
 have B3 := aB B2 (kl t).toArray (g := W1.heap.size) hgg
 clear X2 Y2 G2 B2 X G hB
 generalize (W1.alloc zK).setRow W1.heap.size (kl t).toArray = W3 at *
 generalize W1.heap.size = g at *
 have R := bL.row G3 t
 have B4 := aB B3 (kl t).toArray (g := w.heap.size + 1) (by omega)
 go_wp2_with (first | (refine dF rfl (.tmp 3) rfl rfl X3 ?_) | (refine fL rfl (.tmp 6) (.tmp 23) rfl rfl (t := t) rfl G3 ?_))
 refine bodyPost_ret (aHN rfl _ _ _ rfl rfl R) rfl ⟨aHO HR.out HS.out, B4⟩
theorem gS {P : Prop} (h : P := by
 go_wp2_with (first | (refine dF rfl (.tmp 3) rfl rfl X4 ?_) | (refine dF rfl (.tmp 10) rfl rfl Y4 ?_))
 refine (HK.out _).mono ?_
 rintro e W6 ⟨rfl, hb⟩
 have G5 := G4.below hb
 have B5 := tr B4 hb
 have R := bL.row G5 Z
 have B6 := aB B5 (kl Z).toArray (g := w.heap.size + 1) (by omega)
 clear X4 Y4 G4 B4 hb HK
 go_wp2_with (refine fL rfl (.tmp 6) (.tmp 58) rfl rfl (t := Z) rfl G5 ?_)
 refine bodyPost_ret (aHN rfl _ _ _ rfl rfl R) rfl ⟨aHO HR.out rfl, B6⟩
 ) : P := h
theorem aEZ (t : Rk) (o v : Int) (w : World) (h : t.ok) (o0 : 0 <= o) (o1 : o < 4294967296) (v0 : 0 <= v) (v1 : v < 4294967296) (ho : o = 8) :
 Calls prog 126 #[.agg (kl t).toArray, .int .u32 o, .int .u32 v] w (pN t o v w) := by
 have hB0 := aE (aE (aH w) (oK t)) zK
 have X0 : bL ((w.alloc (oK t)).alloc zK) w.heap.size t := bM w (oK t) zK
 have G0 : bL ((w.alloc (oK t)).alloc zK) (w.heap.size + 1) mI := bU w (oK t) zK
 subst ho
 have hS : t.wr 8 v = { t with set := v } := rfl
 have hok := Rk.wr_ok (o := 8) h v0 v1
 rw [hS] at hok
 have HK := Hd (fun w' => jS t { t with set := v } w' h hok)
 obtain ⟨Z, hZ⟩ : ∃ Z, Rk.behind t { t with set := v } = Z := ⟨_, rfl⟩
 rw [hZ] at HK
 have HR := Hd (show Z = t.sto 8 v by rw [nE t (by omega), hS, hZ])
 have HL := Hd (fun w => by have := mD t 8 w h o0 o1; rw [show bF 8 = 0 from rfl] at this; exact this)
 obtain ⟨V, hV⟩ : ∃ V, t.valE 8 = V := ⟨_, rfl⟩
 rw [hV] at HL
 clear hS hok hZ hV h
 go_enter func126, ntmps126
 go_upto_region 1 with (fail)
 rw [eV, dH]
 generalize ((w.alloc (oK t)).alloc zK) = W at *
 go_wp2_with (refine dF rfl (.tmp 3) rfl rfl X0 ?_)
 refine (HL.out _).mono ?_
 rintro e W1 ⟨rfl, hb⟩
 have X := X0.below hb
 have G := G0.below hb
 have hB := tr hB0 hb
 clear X0 G0 hB0 hb HL
 have hl := G.lt
 have X2 := X.below (aE (aH W1) zK)
 have G2 := G.below (aE (aH W1) zK)
 have Y2 : bL (W1.alloc zK) W1.heap.size mI := aD W1 zK
 have B2 := aE hB zK
 have hgg := hB.size
 go_upto_region 5 with (first | (refine dF rfl (.tmp 3) rfl rfl X ?_) | (refine fL rfl (.tmp 10) (.tmp 21) rfl rfl (t := t) rfl (by rw [dH]; exact Y2) ?_))
 rw [dH]
 have Y3 := bL.row Y2 t
 have X3 := X2.elseRow W1.heap.size (kl t).toArray (by omega)
 have G3 := G2.elseRow W1.heap.size (kl t).toArray (by omega)
 have B3 := aB B2 (kl t).toArray (g := W1.heap.size) hgg
 clear X2 Y2 G2 B2 X G hB
 generalize (W1.alloc zK).setRow W1.heap.size (kl t).toArray = W3 at *
 generalize W1.heap.size = g at *
 have f2 := Y3.free 2
 have y2 := Y3.c2
 have Y4 : bL _ _ { t with set := v } := (Y3.s2 (v))
 have X4 := (X3.other g 2 (.int .u32 (v)) (by omega))
 have G4 := (G3.other g 2 (.int .u32 (v)) (by omega))
 have B4 := (B3.setCell (p := ⟨g, 2, none⟩) (by simpa using hgg) (.int .u32 (v)))
 go_upto_region 20 with (fail)
 clear X3 Y3 G3 B3 f2 y2
 generalize (W3.setCell ⟨g, 2, none⟩ (.int .u32 (v))) = W5 at *
 exact gS
theorem aEY (t : Rk) (o v : Int) (w : World) (h : t.ok) (o0 : 0 <= o) (o1 : o < 4294967296) (v0 : 0 <= v) (v1 : v < 4294967296) (ho : o = 12) :
 Calls prog 126 #[.agg (kl t).toArray, .int .u32 o, .int .u32 v] w (pN t o v w) := by
 have hB0 := aE (aE (aH w) (oK t)) zK
 have X0 : bL ((w.alloc (oK t)).alloc zK) w.heap.size t := bM w (oK t) zK
 have G0 : bL ((w.alloc (oK t)).alloc zK) (w.heap.size + 1) mI := bU w (oK t) zK
 subst ho
 have hS : t.wr 12 v = { t with sec := cZ v t.set, rest := 0 } := rfl
 have hok := Rk.wr_ok (o := 12) h v0 v1
 rw [hS] at hok
 have HK := Hd (fun w' => jS t { t with sec := cZ v t.set, rest := 0 } w' h hok)
 obtain ⟨Z, hZ⟩ : ∃ Z, Rk.behind t { t with sec := cZ v t.set, rest := 0 } = Z := ⟨_, rfl⟩
 rw [hZ] at HK
 have HR := Hd (show Z = t.sto 12 v by rw [nE t (by omega), hS, hZ])
 have HL := Hd (fun w => by have := mD t 12 w h o0 o1; rw [show bF 12 = 0 from rfl] at this; exact this)
 obtain ⟨V, hV⟩ : ∃ V, t.valE 12 = V := ⟨_, rfl⟩
 rw [hV] at HL
 have HJ := Hd (fun w' => aHE v t.set w' v0 v1 h.w0 h.w1)
 clear hS hok hZ hV h
 go_enter func126, ntmps126
 go_upto_region 1 with (fail)
 rw [eV, dH]
 generalize ((w.alloc (oK t)).alloc zK) = W at *
 go_wp2_with (refine dF rfl (.tmp 3) rfl rfl X0 ?_)
 refine (HL.out _).mono ?_
 rintro e W1 ⟨rfl, hb⟩
 have X := X0.below hb
 have G := G0.below hb
 have hB := tr hB0 hb
 clear X0 G0 hB0 hb HL
 have hl := G.lt
 have X2 := X.below (aE (aH W1) zK)
 have G2 := G.below (aE (aH W1) zK)
 have Y2 : bL (W1.alloc zK) W1.heap.size mI := aD W1 zK
 have B2 := aE hB zK
 have hgg := hB.size
 go_upto_region 5 with (first | (refine dF rfl (.tmp 3) rfl rfl X ?_) | (refine fL rfl (.tmp 10) (.tmp 21) rfl rfl (t := t) rfl (by rw [dH]; exact Y2) ?_))
 rw [dH]
 have Y3 := bL.row Y2 t
 have X3 := X2.elseRow W1.heap.size (kl t).toArray (by omega)
 have G3 := G2.elseRow W1.heap.size (kl t).toArray (by omega)
 have B3 := aB B2 (kl t).toArray (g := W1.heap.size) hgg
 clear X2 Y2 G2 B2 X G hB
 generalize (W1.alloc zK).setRow W1.heap.size (kl t).toArray = W3 at *
 generalize W1.heap.size = g at *
 have f3 := Y3.free 3
 have y3 := Y3.c3
 have f1 := Y3.free 1
 have y1 := Y3.c1
 have x2 := X3.c2
 have Y4 : bL _ _ { t with sec := cZ v t.set, rest := 0 } := ((Y3.s3 (cZ v t.set)).s1 (0))
 have X4 := ((X3.other g 3 (.int .u64 (cZ v t.set)) (by omega)).other g 1 (.int .u32 (0)) (by omega))
 have G4 := ((G3.other g 3 (.int .u64 (cZ v t.set)) (by omega)).other g 1 (.int .u32 (0)) (by omega))
 have B4 := ((B3.setCell (p := ⟨g, 3, none⟩) (by simpa using hgg) (.int .u64 (cZ v t.set))).setCell (p := ⟨g, 1, none⟩) (by simpa using hgg) (.int .u32 (0)))
 go_upto_region 20 with (go_at_call 84; refine (HJ.out _).mono ?_; rintro e w' ⟨rfl, rfl⟩)
 clear X3 Y3 G3 B3 f3 y3 f1 y1 x2
 generalize ((W3.setCell ⟨g, 3, none⟩ (.int .u64 (cZ v t.set))).setCell ⟨g, 1, none⟩ (.int .u32 (0))) = W5 at *
 exact gS
theorem aGD (t : Rk) (o v : Int) (w : World) (h : t.ok) (o0 : 0 <= o) (o1 : o < 4294967296) (v0 : 0 <= v) (v1 : v < 4294967296) (ho : o = 16) :
 Calls prog 126 #[.agg (kl t).toArray, .int .u32 o, .int .u32 v] w (pN t o v w) := by
 have hB0 := aE (aE (aH w) (oK t)) zK
 have X0 : bL ((w.alloc (oK t)).alloc zK) w.heap.size t := bM w (oK t) zK
 have G0 : bL ((w.alloc (oK t)).alloc zK) (w.heap.size + 1) mI := bU w (oK t) zK
 subst ho
 have hS : t.wr 16 v = { t with al := v } := rfl
 have hok := Rk.wr_ok (o := 16) h v0 v1
 rw [hS] at hok
 have HK := Hd (fun w' => jS t { t with al := v } w' h hok)
 obtain ⟨Z, hZ⟩ : ∃ Z, Rk.behind t { t with al := v } = Z := ⟨_, rfl⟩
 rw [hZ] at HK
 have HR := Hd (show Z = t.sto 16 v by rw [nE t (by omega), hS, hZ])
 have HL := Hd (fun w => by have := mD t 16 w h o0 o1; rw [show bF 16 = 0 from rfl] at this; exact this)
 obtain ⟨V, hV⟩ : ∃ V, t.valE 16 = V := ⟨_, rfl⟩
 rw [hV] at HL
 clear hS hok hZ hV h
 go_enter func126, ntmps126
 go_upto_region 1 with (fail)
 rw [eV, dH]
 generalize ((w.alloc (oK t)).alloc zK) = W at *
 go_wp2_with (refine dF rfl (.tmp 3) rfl rfl X0 ?_)
 refine (HL.out _).mono ?_
 rintro e W1 ⟨rfl, hb⟩
 have X := X0.below hb
 have G := G0.below hb
 have hB := tr hB0 hb
 clear X0 G0 hB0 hb HL
 have hl := G.lt
 have X2 := X.below (aE (aH W1) zK)
 have G2 := G.below (aE (aH W1) zK)
 have Y2 : bL (W1.alloc zK) W1.heap.size mI := aD W1 zK
 have B2 := aE hB zK
 have hgg := hB.size
 go_upto_region 5 with (first | (refine dF rfl (.tmp 3) rfl rfl X ?_) | (refine fL rfl (.tmp 10) (.tmp 21) rfl rfl (t := t) rfl (by rw [dH]; exact Y2) ?_))
 rw [dH]
 have Y3 := bL.row Y2 t
 have X3 := X2.elseRow W1.heap.size (kl t).toArray (by omega)
 have G3 := G2.elseRow W1.heap.size (kl t).toArray (by omega)
 have B3 := aB B2 (kl t).toArray (g := W1.heap.size) hgg
 clear X2 Y2 G2 B2 X G hB
 generalize (W1.alloc zK).setRow W1.heap.size (kl t).toArray = W3 at *
 generalize W1.heap.size = g at *
 have f4 := Y3.free 4
 have y4 := Y3.c4
 have Y4 : bL _ _ { t with al := v } := (Y3.s4 (v))
 have X4 := (X3.other g 4 (.int .u32 (v)) (by omega))
 have G4 := (G3.other g 4 (.int .u32 (v)) (by omega))
 have B4 := (B3.setCell (p := ⟨g, 4, none⟩) (by simpa using hgg) (.int .u32 (v)))
 go_upto_region 20 with (fail)
 clear X3 Y3 G3 B3 f4 y4
 generalize (W3.setCell ⟨g, 4, none⟩ (.int .u32 (v))) = W5 at *
 exact gS
theorem aGC (t : Rk) (o v : Int) (w : World) (h : t.ok) (o0 : 0 <= o) (o1 : o < 4294967296) (v0 : 0 <= v) (v1 : v < 4294967296) (ho : o = 20) :
 Calls prog 126 #[.agg (kl t).toArray, .int .u32 o, .int .u32 v] w (pN t o v w) := by
 have hB0 := aE (aE (aH w) (oK t)) zK
 have X0 : bL ((w.alloc (oK t)).alloc zK) w.heap.size t := bM w (oK t) zK
 have G0 : bL ((w.alloc (oK t)).alloc zK) (w.heap.size + 1) mI := bU w (oK t) zK
 subst ho
 have hS : t.wr 20 v = { t with ah := v } := rfl
 have hok := Rk.wr_ok (o := 20) h v0 v1
 rw [hS] at hok
 have HK := Hd (fun w' => jS t { t with ah := v } w' h hok)
 obtain ⟨Z, hZ⟩ : ∃ Z, Rk.behind t { t with ah := v } = Z := ⟨_, rfl⟩
 rw [hZ] at HK
 have HR := Hd (show Z = t.sto 20 v by rw [nE t (by omega), hS, hZ])
 have HL := Hd (fun w => by have := mD t 20 w h o0 o1; rw [show bF 20 = 0 from rfl] at this; exact this)
 obtain ⟨V, hV⟩ : ∃ V, t.valE 20 = V := ⟨_, rfl⟩
 rw [hV] at HL
 clear hS hok hZ hV h
 go_enter func126, ntmps126
 go_upto_region 1 with (fail)
 rw [eV, dH]
 generalize ((w.alloc (oK t)).alloc zK) = W at *
 go_wp2_with (refine dF rfl (.tmp 3) rfl rfl X0 ?_)
 refine (HL.out _).mono ?_
 rintro e W1 ⟨rfl, hb⟩
 have X := X0.below hb
 have G := G0.below hb
 have hB := tr hB0 hb
 clear X0 G0 hB0 hb HL
 have hl := G.lt
 have X2 := X.below (aE (aH W1) zK)
 have G2 := G.below (aE (aH W1) zK)
 have Y2 : bL (W1.alloc zK) W1.heap.size mI := aD W1 zK
 have B2 := aE hB zK
 have hgg := hB.size
 go_upto_region 5 with (first | (refine dF rfl (.tmp 3) rfl rfl X ?_) | (refine fL rfl (.tmp 10) (.tmp 21) rfl rfl (t := t) rfl (by rw [dH]; exact Y2) ?_))
 rw [dH]
 have Y3 := bL.row Y2 t
 have X3 := X2.elseRow W1.heap.size (kl t).toArray (by omega)
 have G3 := G2.elseRow W1.heap.size (kl t).toArray (by omega)
 have B3 := aB B2 (kl t).toArray (g := W1.heap.size) hgg
 clear X2 Y2 G2 B2 X G hB
 generalize (W1.alloc zK).setRow W1.heap.size (kl t).toArray = W3 at *
 generalize W1.heap.size = g at *
 have f5 := Y3.free 5
 have y5 := Y3.c5
 have Y4 : bL _ _ { t with ah := v } := (Y3.s5 (v))
 have X4 := (X3.other g 5 (.int .u32 (v)) (by omega))
 have G4 := (G3.other g 5 (.int .u32 (v)) (by omega))
 have B4 := (B3.setCell (p := ⟨g, 5, none⟩) (by simpa using hgg) (.int .u32 (v)))
 go_upto_region 20 with (fail)
 clear X3 Y3 G3 B3 f5 y5
 generalize (W3.setCell ⟨g, 5, none⟩ (.int .u32 (v))) = W5 at *
 exact gS
theorem aGE (t : Rk) (o v : Int) (w : World) (h : t.ok) (o0 : 0 <= o) (o1 : o < 4294967296) (v0 : 0 <= v) (v1 : v < 4294967296) (ho : o = 24) :
 Calls prog 126 #[.agg (kl t).toArray, .int .u32 o, .int .u32 v] w (pN t o v w) := by
 have hB0 := aE (aE (aH w) (oK t)) zK
 have X0 : bL ((w.alloc (oK t)).alloc zK) w.heap.size t := bM w (oK t) zK
 have G0 : bL ((w.alloc (oK t)).alloc zK) (w.heap.size + 1) mI := bU w (oK t) zK
 subst ho
 obtain ⟨e, hev⟩ : ∃ e, (v % 2 == 1) = e := ⟨_, rfl⟩
 cases e
 . have hS : t.wr 24 v = { t with en := false } := by show ({ t with en := (v % 2 == 1) } : Rk) = _; rw [hev]
   have hok := Rk.wr_ok (o := 24) h v0 v1
   rw [hS] at hok
   have HK := Hd (fun w' => jS t { t with en := false } w' h hok)
   obtain ⟨Z, hZ⟩ : ∃ Z, Rk.behind t { t with en := false } = Z := ⟨_, rfl⟩
   rw [hZ] at HK
   have HR := Hd (show Z = t.sto 24 v by rw [nE t (by omega), hS, hZ])
   have HL := Hd (fun w => by have := mD t 24 w h o0 o1; rw [show bF 24 = 0 from rfl] at this; exact this)
   obtain ⟨V, hV⟩ : ∃ V, t.valE 24 = V := ⟨_, rfl⟩
   rw [hV] at HL
   clear hS hok hZ hV h
   go_enter func126, ntmps126
   go_upto_region 1 with (fail)
   rw [eV, dH]
   generalize ((w.alloc (oK t)).alloc zK) = W at *
   go_wp2_with (refine dF rfl (.tmp 3) rfl rfl X0 ?_)
   refine (HL.out _).mono ?_
   rintro e W1 ⟨rfl, hb⟩
   have X := X0.below hb
   have G := G0.below hb
   have hB := tr hB0 hb
   clear X0 G0 hB0 hb HL
   have hl := G.lt
   have X2 := X.below (aE (aH W1) zK)
   have G2 := G.below (aE (aH W1) zK)
   have Y2 : bL (W1.alloc zK) W1.heap.size mI := aD W1 zK
   have B2 := aE hB zK
   have hgg := hB.size
   go_upto_region 5 with (first | (refine dF rfl (.tmp 3) rfl rfl X ?_) | (refine fL rfl (.tmp 10) (.tmp 21) rfl rfl (t := t) rfl (by rw [dH]; exact Y2) ?_))
   rw [dH]
   have Y3 := bL.row Y2 t
   have X3 := X2.elseRow W1.heap.size (kl t).toArray (by omega)
   have G3 := G2.elseRow W1.heap.size (kl t).toArray (by omega)
   have B3 := aB B2 (kl t).toArray (g := W1.heap.size) hgg
   clear X2 Y2 G2 B2 X G hB
   generalize (W1.alloc zK).setRow W1.heap.size (kl t).toArray = W3 at *
   generalize W1.heap.size = g at *
   have f6 := Y3.free 6
   have y6 := Y3.c6
   have Y4 : bL _ _ { t with en := false } := (Y3.s6 (false))
   have X4 := (X3.other g 6 (.bool (false)) (by omega))
   have G4 := (G3.other g 6 (.bool (false)) (by omega))
   have B4 := (B3.setCell (p := ⟨g, 6, none⟩) (by simpa using hgg) (.bool (false)))
   go_upto_region 20 with (fail)
   clear X3 Y3 G3 B3 f6 y6
   generalize (W3.setCell ⟨g, 6, none⟩ (.bool (false))) = W5 at *
   exact gS
 . have hS : t.wr 24 v = { t with en := true } := by show ({ t with en := (v % 2 == 1) } : Rk) = _; rw [hev]
   have hok := Rk.wr_ok (o := 24) h v0 v1
   rw [hS] at hok
   have HK := Hd (fun w' => jS t { t with en := true } w' h hok)
   obtain ⟨Z, hZ⟩ : ∃ Z, Rk.behind t { t with en := true } = Z := ⟨_, rfl⟩
   rw [hZ] at HK
   have HR := Hd (show Z = t.sto 24 v by rw [nE t (by omega), hS, hZ])
   have HL := Hd (fun w => by have := mD t 24 w h o0 o1; rw [show bF 24 = 0 from rfl] at this; exact this)
   obtain ⟨V, hV⟩ : ∃ V, t.valE 24 = V := ⟨_, rfl⟩
   rw [hV] at HL
   clear hS hok hZ hV h
   go_enter func126, ntmps126
   go_upto_region 1 with (fail)
   rw [eV, dH]
   generalize ((w.alloc (oK t)).alloc zK) = W at *
   go_wp2_with (refine dF rfl (.tmp 3) rfl rfl X0 ?_)
   refine (HL.out _).mono ?_
   rintro e W1 ⟨rfl, hb⟩
   have X := X0.below hb
   have G := G0.below hb
   have hB := tr hB0 hb
   clear X0 G0 hB0 hb HL
   have hl := G.lt
   have X2 := X.below (aE (aH W1) zK)
   have G2 := G.below (aE (aH W1) zK)
   have Y2 : bL (W1.alloc zK) W1.heap.size mI := aD W1 zK
   have B2 := aE hB zK
   have hgg := hB.size
   go_upto_region 5 with (first | (refine dF rfl (.tmp 3) rfl rfl X ?_) | (refine fL rfl (.tmp 10) (.tmp 21) rfl rfl (t := t) rfl (by rw [dH]; exact Y2) ?_))
   rw [dH]
   have Y3 := bL.row Y2 t
   have X3 := X2.elseRow W1.heap.size (kl t).toArray (by omega)
   have G3 := G2.elseRow W1.heap.size (kl t).toArray (by omega)
   have B3 := aB B2 (kl t).toArray (g := W1.heap.size) hgg
   clear X2 Y2 G2 B2 X G hB
   generalize (W1.alloc zK).setRow W1.heap.size (kl t).toArray = W3 at *
   generalize W1.heap.size = g at *
   have f6 := Y3.free 6
   have y6 := Y3.c6
   have Y4 : bL _ _ { t with en := true } := (Y3.s6 (true))
   have X4 := (X3.other g 6 (.bool (true)) (by omega))
   have G4 := (G3.other g 6 (.bool (true)) (by omega))
   have B4 := (B3.setCell (p := ⟨g, 6, none⟩) (by simpa using hgg) (.bool (true)))
   go_upto_region 20 with (fail)
   clear X3 Y3 G3 B3 f6 y6
   generalize (W3.setCell ⟨g, 6, none⟩ (.bool (true))) = W5 at *
   exact gS
theorem aGF (t : Rk) (o v : Int) (w : World) (h : t.ok) (o0 : 0 <= o) (o1 : o < 4294967296) (v0 : 0 <= v) (v1 : v < 4294967296) (ho : o = 28) :
 Calls prog 126 #[.agg (kl t).toArray, .int .u32 o, .int .u32 v] w (pN t o v w) := by
 have hB0 := aE (aE (aH w) (oK t)) zK
 have X0 : bL ((w.alloc (oK t)).alloc zK) w.heap.size t := bM w (oK t) zK
 have G0 : bL ((w.alloc (oK t)).alloc zK) (w.heap.size + 1) mI := bU w (oK t) zK
 subst ho
 obtain ⟨e, hev⟩ : ∃ e, (v % 2 == 1) = e := ⟨_, rfl⟩
 cases e
 . have hS : t.wr 28 v = t := by show ({ t with st := t.st && !(v % 2 == 1) } : Rk) = _; rw [hev]; simp
   have hok := Rk.wr_ok (o := 28) h v0 v1
   rw [hS] at hok
   have HK := Hd (fun w' => jS t t w' h hok)
   obtain ⟨Z, hZ⟩ : ∃ Z, Rk.behind t t = Z := ⟨_, rfl⟩
   rw [hZ] at HK
   have HR := Hd (show Z = t.sto 28 v by rw [nE t (by omega), hS, hZ])
   have HL := Hd (fun w => by have := mD t 28 w h o0 o1; rw [show bF 28 = 0 from rfl] at this; exact this)
   obtain ⟨V, hV⟩ : ∃ V, t.valE 28 = V := ⟨_, rfl⟩
   rw [hV] at HL
   clear hS hok hZ hV h
   go_enter func126, ntmps126
   go_upto_region 1 with (fail)
   rw [eV, dH]
   generalize ((w.alloc (oK t)).alloc zK) = W at *
   go_wp2_with (refine dF rfl (.tmp 3) rfl rfl X0 ?_)
   refine (HL.out _).mono ?_
   rintro e W1 ⟨rfl, hb⟩
   have X := X0.below hb
   have G := G0.below hb
   have hB := tr hB0 hb
   clear X0 G0 hB0 hb HL
   have hl := G.lt
   have X2 := X.below (aE (aH W1) zK)
   have G2 := G.below (aE (aH W1) zK)
   have Y2 : bL (W1.alloc zK) W1.heap.size mI := aD W1 zK
   have B2 := aE hB zK
   have hgg := hB.size
   go_upto_region 5 with (first | (refine dF rfl (.tmp 3) rfl rfl X ?_) | (refine fL rfl (.tmp 10) (.tmp 21) rfl rfl (t := t) rfl (by rw [dH]; exact Y2) ?_))
   rw [dH]
   have Y3 := bL.row Y2 t
   have X3 := X2.elseRow W1.heap.size (kl t).toArray (by omega)
   have G3 := G2.elseRow W1.heap.size (kl t).toArray (by omega)
   have B3 := aB B2 (kl t).toArray (g := W1.heap.size) hgg
   clear X2 Y2 G2 B2 X G hB
   generalize (W1.alloc zK).setRow W1.heap.size (kl t).toArray = W3 at *
   generalize W1.heap.size = g at *
   have Y4 : bL _ _ t := Y3
   have X4 := X3
   have G4 := G3
   have B4 := B3
   go_upto_region 20 with (fail)
   clear X3 Y3 G3 B3
   exact gS
 . have hS : t.wr 28 v = { t with st := false } := by show ({ t with st := t.st && !(v % 2 == 1) } : Rk) = _; rw [hev]; simp
   have hok := Rk.wr_ok (o := 28) h v0 v1
   rw [hS] at hok
   have HK := Hd (fun w' => jS t { t with st := false } w' h hok)
   obtain ⟨Z, hZ⟩ : ∃ Z, Rk.behind t { t with st := false } = Z := ⟨_, rfl⟩
   rw [hZ] at HK
   have HR := Hd (show Z = t.sto 28 v by rw [nE t (by omega), hS, hZ])
   have HL := Hd (fun w => by have := mD t 28 w h o0 o1; rw [show bF 28 = 0 from rfl] at this; exact this)
   obtain ⟨V, hV⟩ : ∃ V, t.valE 28 = V := ⟨_, rfl⟩
   rw [hV] at HL
   clear hS hok hZ hV h
   go_enter func126, ntmps126
   go_upto_region 1 with (fail)
   rw [eV, dH]
   generalize ((w.alloc (oK t)).alloc zK) = W at *
   go_wp2_with (refine dF rfl (.tmp 3) rfl rfl X0 ?_)
   refine (HL.out _).mono ?_
   rintro e W1 ⟨rfl, hb⟩
   have X := X0.below hb
   have G := G0.below hb
   have hB := tr hB0 hb
   clear X0 G0 hB0 hb HL
   have hl := G.lt
   have X2 := X.below (aE (aH W1) zK)
   have G2 := G.below (aE (aH W1) zK)
   have Y2 : bL (W1.alloc zK) W1.heap.size mI := aD W1 zK
   have B2 := aE hB zK
   have hgg := hB.size
   go_upto_region 5 with (first | (refine dF rfl (.tmp 3) rfl rfl X ?_) | (refine fL rfl (.tmp 10) (.tmp 21) rfl rfl (t := t) rfl (by rw [dH]; exact Y2) ?_))
   rw [dH]
   have Y3 := bL.row Y2 t
   have X3 := X2.elseRow W1.heap.size (kl t).toArray (by omega)
   have G3 := G2.elseRow W1.heap.size (kl t).toArray (by omega)
   have B3 := aB B2 (kl t).toArray (g := W1.heap.size) hgg
   clear X2 Y2 G2 B2 X G hB
   generalize (W1.alloc zK).setRow W1.heap.size (kl t).toArray = W3 at *
   generalize W1.heap.size = g at *
   have f7 := Y3.free 7
   have y7 := Y3.c7
   have Y4 : bL _ _ { t with st := false } := (Y3.s7 (false))
   have X4 := (X3.other g 7 (.bool (false)) (by omega))
   have G4 := (G3.other g 7 (.bool (false)) (by omega))
   have B4 := (B3.setCell (p := ⟨g, 7, none⟩) (by simpa using hgg) (.bool (false)))
   go_upto_region 20 with (fail)
   clear X3 Y3 G3 B3 f7 y7
   generalize (W3.setCell ⟨g, 7, none⟩ (.bool (false))) = W5 at *
   exact gS
theorem aLz (t : Rk) (o v : Int) (w : World) (h : t.ok) (o0 : 0 <= o) (o1 : o < 4294967296) (v0 : 0 <= v) (v1 : v < 4294967296) :
 Calls prog 126 #[.agg (kl t).toArray, .int .u32 o, .int .u32 v] w (pN t o v w) := by
 by_cases he : bF o = 0
 . rcases lW o0 he with ho | ho | ho | ho | ho | ho | ho | ho | ho
   . exact zX t o v w h o0 o1 v0 v1 (by omega)
   . exact zX t o v w h o0 o1 v0 v1 (by omega)
   . exact aEZ t o v w h o0 o1 v0 v1 ho
   . exact aEY t o v w h o0 o1 v0 v1 ho
   . exact aGD t o v w h o0 o1 v0 v1 ho
   . exact aGC t o v w h o0 o1 v0 v1 ho
   . exact aGE t o v w h o0 o1 v0 v1 ho
   . exact aGF t o v w h o0 o1 v0 v1 ho
   . exact zX t o v w h o0 o1 v0 v1 (by omega)
 . exact aIk t o v w h o0 o1 v0 v1 he
end Go.Proofs.YtaohacadochldaaGreat.B
