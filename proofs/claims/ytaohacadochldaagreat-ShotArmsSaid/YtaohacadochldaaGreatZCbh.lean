/- A part of the proof of a law of layer 12: bh. -/
import Derived.Test.YtaohacadochldaaGreatZCbg
set_option linter.unusedVariables false
set_option linter.unusedSimpArgs false
set_option maxHeartbeats 12800000
set_option maxRecDepth 100000
namespace Go.Proofs.YtaohacadochldaaGreat.B
open Go.Proofs.Tryz
open Go.ChangeShapes Go.WideShapes Go.RowKit Go.Sort
abbrev oQ (t : Wd) (o v : Int) (w : World) (e : Ending) (w' : World) : Prop := e = .returned (.tuple #[.agg (vl (t.sto o v)).toArray, .int .i64 (kQ o)]) /\ Below w.heap.size w w'
theorem aBZ {s t : Wd} {e f : Int} (h : s = t) (k : e = f) : Ending.returned (.tuple #[.agg (vl s).toArray, .int .i64 e]) = .returned (.tuple #[.agg (vl t).toArray, .int .i64 f]) := by rw [h, k]
theorem wU {P : Prop} (h : P := by
 go_enter func124, ntmps124
 go_upto_region 1 with (fail)
 rw [eH, fX]
 generalize ((w.alloc (oV t)).alloc zV) = W at *
 go_wp2_with (refine bW rfl (.tmp 3) rfl rfl X0 ?_)
 refine (HL.out _).mono ?_
 rintro e W1 ⟨rfl, hb⟩
 have X := X0.below hb
 have Y := Y0.below hb
 have hB := tr hB0 hb
 clear X0 Y0 hB0 hb HL
 have x0 := X.c0
 have x1 := X.c1
 have x2 := X.c2
 have x3 := X.c3
 have x4 := X.c4
 have x5 := X.c5
 have x6 := X.c6
 have Z := bX.row Y t
 have hB2 := aB hB (vl t).toArray (g := w.heap.size + 1) (by omega)
 go_wp2_with (first | (refine bW rfl (.tmp 3) rfl rfl X ?_) | (refine dW rfl (.tmp 6) (.tmp 30) rfl rfl (t := t) rfl Y ?_))
 refine bodyPost_ret (qH rfl _ _ _ rfl rfl Z) rfl ⟨aBZ HR.out HS.out, hB2⟩
 ) : P := h
theorem aJf (t : Wd) (o v : Int) (w : World) (h : t.ok) (o0 : 0 <= o) (o1 : o < 4294967296) (v0 : 0 <= v) (v1 : v < 4294967296) (he : eS o ≠ 0) :
 Calls prog 124 #[.agg (vl t).toArray, .int .u32 o, .int .u32 v] w (oQ t o v w) := by
 have hB0 := aE (aE (aH w) (oV t)) zV
 have X0 : bX ((w.alloc (oV t)).alloc zV) w.heap.size t := bM w (oV t) zV
 have Y0 : bX ((w.alloc (oV t)).alloc zV) (w.heap.size + 1) wz := bU w (oV t) zV
 obtain ⟨E, hE⟩ : ∃ E, eS o = E := ⟨_, rfl⟩
 obtain ⟨V, hV⟩ : ∃ V, t.val o = V := ⟨_, rfl⟩
 have n0 : o ≠ 0 /\ o ≠ 4 /\ o ≠ 8 /\ o ≠ 12 := ⟨fun e => he (by rw [e]; rfl), fun e => he (by rw [e]; rfl), fun e => he (by rw [e]; rfl), fun e => he (by rw [e]; rfl)⟩
 have n16 : o ≠ 16 := fun e => he (by rw [e]; rfl)
 have hs : kQ o = E := by unfold kQ; rw [if_neg n16, hE]
 have HR := Hd (show t = t.sto o v from (Wd.sto_same n0).symm)
 have HS := Hd hs.symm
 have HL := Hd (fun w => by have := nH t o w h o0 o1; rw [hV, hE] at this; exact this)
 rw [hE] at he
 have q0 : (E == 0) = false := by simpa using he
 have q1 : (E != 0) = true := by simpa using he
 clear hE hV n0 n16 hs he h
 exact wU
theorem aJk (t : Wd) (o v : Int) (w : World) (h : t.ok) (o0 : 0 <= o) (o1 : o < 4294967296) (v0 : 0 <= v) (v1 : v < 4294967296) (hs : o = 16) :
 Calls prog 124 #[.agg (vl t).toArray, .int .u32 o, .int .u32 v] w (oQ t o v w) := by
 have hB0 := aE (aE (aH w) (oV t)) zV
 have X0 : bX ((w.alloc (oV t)).alloc zV) w.heap.size t := bM w (oV t) zV
 have Y0 : bX ((w.alloc (oV t)).alloc zV) (w.heap.size + 1) wz := bU w (oV t) zV
 subst hs
 have HR := Hd (show t = t.sto 16 v from (Wd.sto_same (by omega)).symm)
 have HL := Hd (fun w => by have := nH t 16 w h o0 o1; rw [show eS 16 = 0 from rfl] at this; exact this)
 clear h
 go_enter func124, ntmps124
 go_upto_region 1 with (fail)
 rw [eH, fX]
 generalize ((w.alloc (oV t)).alloc zV) = W at *
 go_wp2_with (refine bW rfl (.tmp 3) rfl rfl X0 ?_)
 refine (HL.out _).mono ?_
 rintro e W1 ⟨rfl, hb⟩
 have X := X0.below hb
 have Y := Y0.below hb
 have hB := tr hB0 hb
 clear X0 Y0 hB0 hb HL
 have x0 := X.c0
 have x1 := X.c1
 have x2 := X.c2
 have x3 := X.c3
 have x4 := X.c4
 have x5 := X.c5
 have x6 := X.c6
 have Z := bX.row Y t
 have hB2 := aB hB (vl t).toArray (g := w.heap.size + 1) (by omega)
 go_wp2_with (first | (refine bW rfl (.tmp 3) rfl rfl X ?_) | (refine dW rfl (.tmp 6) (.tmp 30) rfl rfl (t := t) rfl Y ?_))
 refine bodyPost_ret (qH rfl _ _ _ rfl rfl Z) rfl ⟨aBZ HR.out rfl, hB2⟩
theorem aJg (t : Wd) (o v : Int) (w : World) (h : t.ok) (o0 : 0 <= o) (o1 : o < 4294967296) (v0 : 0 <= v) (v1 : v < 4294967296) (ho : o = 0 \/ o = 4 \/ o = 8 \/ o = 12) (hf : t.fa ≠ 0) :
 Calls prog 124 #[.agg (vl t).toArray, .int .u32 o, .int .u32 v] w (oQ t o v w) := by
 have hB0 := aE (aE (aH w) (oV t)) zV
 have X0 : bX ((w.alloc (oV t)).alloc zV) w.heap.size t := bM w (oV t) zV
 have Y0 : bX ((w.alloc (oV t)).alloc zV) (w.heap.size + 1) wz := bU w (oV t) zV
 obtain ⟨V, hV⟩ : ∃ V, t.val o = V := ⟨_, rfl⟩
 have he : eS o = 0 := by rcases ho with rfl | rfl | rfl | rfl <;> rfl
 have hs : kQ o = 0 := by rcases ho with rfl | rfl | rfl | rfl <;> rfl
 have HR := Hd (show t = t.sto o v from (Wd.sto_fault hf).symm)
 have HS := Hd hs.symm
 have HL := Hd (fun w => by have := nH t o w h o0 o1; rw [hV, he] at this; exact this)
 have q0 : (t.fa != 0) = true := by simpa using hf
 have q16 : (o == 16) = false := by simp; omega
 clear hV he hs ho hf h
 exact wU
theorem dM {P : Prop} (h : P := by
 refine bodyPost_ret (qH rfl _ _ _ rfl rfl Z) rfl ⟨aBZ (hs.symm.trans HR.out.symm) rfl, hB2⟩
 ) : P := h
theorem jX {P : Prop} (h : P := by
 have hs : R = t := by rw [hs0, if_pos (by rw [hen, hlk]; rfl)]
 clear hs0
 have Hen := Hd hen
 have Hlk := Hd hlk
 have Hf := Hd hf
 clear hen hlk hf
 go_enter func124, ntmps124
 go_upto_region 1 with (fail)
 rw [eH, fX]
 generalize ((w.alloc (oV t)).alloc zV) = W at *
 go_wp2_with (refine bW rfl (.tmp 3) rfl rfl X0 ?_)
 refine (HL.out _).mono ?_
 rintro e W1 ⟨rfl, hb⟩
 have X := X0.below hb
 have Y := Y0.below hb
 have hB := tr hB0 hb
 clear X0 Y0 hB0 hb HL
 have x0 := X.c0
 have x1 := X.c1
 have x2 := X.c2
 have x3 := X.c3
 have x4 := X.c4
 have x5 := X.c5
 have x6 := X.c6
 rw [Hen.out] at x0
 rw [Hlk.out] at x1
 have Z := bX.row Y t
 have hB2 := aB hB (vl t).toArray (g := w.heap.size + 1) (by omega)
 go_wp2_with (first | (refine bW rfl (.tmp 3) rfl rfl X ?_) | (refine dW rfl (.tmp 6) (.tmp 125) rfl rfl (t := t) rfl Y ?_))
 refine bodyPost_ret (qH rfl _ _ _ rfl rfl Z) rfl ⟨aBZ (hs.symm.trans HR.out.symm) rfl, hB2⟩
 ) : P := h
theorem aJe (t : Wd) (o v : Int) (w : World) (h : t.ok) (o0 : 0 <= o) (o1 : o < 4294967296) (v0 : 0 <= v) (v1 : v < 4294967296) (ho : o = 4) (hf : t.fa = 0) :
 Calls prog 124 #[.agg (vl t).toArray, .int .u32 o, .int .u32 v] w (oQ t o v w) := by
 have hB0 := aE (aE (aH w) (oV t)) zV
 have X0 : bX ((w.alloc (oV t)).alloc zV) w.heap.size t := bM w (oV t) zV
 have Y0 : bX ((w.alloc (oV t)).alloc zV) (w.heap.size + 1) wz := bU w (oV t) zV
 subst ho
 have hs0 : t.sto 4 v = (if (t.lk || t.en) = true then t else { t with cl := v }) := by unfold Wd.sto; rw [if_neg (by simp [hf]), if_neg (by decide), if_pos rfl]; simp only [Bool.or_eq_true]
 obtain ⟨R, hR⟩ : ∃ R, t.sto 4 v = R := ⟨_, rfl⟩
 rw [hR] at hs0
 have HR := Hd hR
 have HL := Hd (fun w => by have := nH t 4 w h o0 o1; rw [show eS 4 = 0 from rfl] at this; exact this)
 have q0 : (t.fa != 0) = false := by simp [hf]
 obtain ⟨en, hen⟩ : ∃ b, t.en = b := ⟨_, rfl⟩
 obtain ⟨lk, hlk⟩ : ∃ b, t.lk = b := ⟨_, rfl⟩
 clear h hR
 cases en <;> cases lk
 . have hs : R = { t with cl := v } := by rw [hs0, if_neg (by rw [hen, hlk]; simp)]
   clear hs0
   have Hen := Hd hen
   have Hlk := Hd hlk
   have Hf := Hd hf
   clear hen hlk hf
   go_enter func124, ntmps124
   go_upto_region 1 with (fail)
   rw [eH, fX]
   generalize ((w.alloc (oV t)).alloc zV) = W at *
   go_wp2_with (refine bW rfl (.tmp 3) rfl rfl X0 ?_)
   refine (HL.out _).mono ?_
   rintro e W1 ⟨rfl, hb⟩
   have X := X0.below hb
   have Y := Y0.below hb
   have hB := tr hB0 hb
   clear X0 Y0 hB0 hb HL
   have x0 := X.c0
   have x1 := X.c1
   have x2 := X.c2
   have x3 := X.c3
   have x4 := X.c4
   have x5 := X.c5
   have x6 := X.c6
   rw [Hen.out] at x0
   rw [Hlk.out] at x1
   have f3 := X.free 3
   go_upto_region 36 with (fail)
   have X1 : bX _ _ { t with cl := v } := (X.s3 v)
   have Y1 := (Y.other w.heap.size 3 (.int .u32 v) (by omega))
   have hB1 := (hB.setCell (p := ⟨w.heap.size, 3, none⟩) (by simp) (.int .u32 v))
   clear X Y hB x0 x1 x2 x3 x4 x5 x6
   have X := X1
   have Y := Y1
   have hB := hB1
   clear X1 Y1 hB1 f3
   generalize (W1.setCell ⟨w.heap.size, 3, none⟩ (.int .u32 v)) = W2 at *
   have x0 := X.c0
   have x1 := X.c1
   have x2 := X.c2
   have x3 := X.c3
   have x4 := X.c4
   have x5 := X.c5
   have x6 := X.c6
   simp only at x0 x1 x2 x3 x4 x5 x6
   have Z := bX.row Y { t with cl := v }
   have hB2 := aB hB (vl { t with cl := v }).toArray (g := w.heap.size + 1) (by omega)
   go_wp2_with (first | (refine bW rfl (.tmp 3) rfl rfl X ?_) | (refine dW rfl (.tmp 6) (.tmp 125) rfl rfl (t := { t with cl := v }) rfl Y ?_))
   exact dM
 . exact jX
 . exact jX
 . exact jX
theorem aJl (t : Wd) (o v : Int) (w : World) (h : t.ok) (o0 : 0 <= o) (o1 : o < 4294967296) (v0 : 0 <= v) (v1 : v < 4294967296) (ho : o = 8) (hf : t.fa = 0) :
 Calls prog 124 #[.agg (vl t).toArray, .int .u32 o, .int .u32 v] w (oQ t o v w) := by
 have hB0 := aE (aE (aH w) (oV t)) zV
 have X0 : bX ((w.alloc (oV t)).alloc zV) w.heap.size t := bM w (oV t) zV
 have Y0 : bX ((w.alloc (oV t)).alloc zV) (w.heap.size + 1) wz := bU w (oV t) zV
 subst ho
 have hs0 : t.sto 8 v = (if (t.lk || t.en) = true then t else { t with tot := v }) := by unfold Wd.sto; rw [if_neg (by simp [hf]), if_neg (by decide), if_neg (by decide), if_pos rfl]; simp only [Bool.or_eq_true]
 obtain ⟨R, hR⟩ : ∃ R, t.sto 8 v = R := ⟨_, rfl⟩
 rw [hR] at hs0
 have HR := Hd hR
 have HL := Hd (fun w => by have := nH t 8 w h o0 o1; rw [show eS 8 = 0 from rfl] at this; exact this)
 have q0 : (t.fa != 0) = false := by simp [hf]
 obtain ⟨en, hen⟩ : ∃ b, t.en = b := ⟨_, rfl⟩
 obtain ⟨lk, hlk⟩ : ∃ b, t.lk = b := ⟨_, rfl⟩
 clear h hR
 cases en <;> cases lk
 . have hs : R = { t with tot := v } := by rw [hs0, if_neg (by rw [hen, hlk]; simp)]
   clear hs0
   have Hen := Hd hen
   have Hlk := Hd hlk
   have Hf := Hd hf
   clear hen hlk hf
   go_enter func124, ntmps124
   go_upto_region 1 with (fail)
   rw [eH, fX]
   generalize ((w.alloc (oV t)).alloc zV) = W at *
   go_wp2_with (refine bW rfl (.tmp 3) rfl rfl X0 ?_)
   refine (HL.out _).mono ?_
   rintro e W1 ⟨rfl, hb⟩
   have X := X0.below hb
   have Y := Y0.below hb
   have hB := tr hB0 hb
   clear X0 Y0 hB0 hb HL
   have x0 := X.c0
   have x1 := X.c1
   have x2 := X.c2
   have x3 := X.c3
   have x4 := X.c4
   have x5 := X.c5
   have x6 := X.c6
   rw [Hen.out] at x0
   rw [Hlk.out] at x1
   have f4 := X.free 4
   go_upto_region 36 with (fail)
   have X1 : bX _ _ { t with tot := v } := (X.s4 v)
   have Y1 := (Y.other w.heap.size 4 (.int .u32 v) (by omega))
   have hB1 := (hB.setCell (p := ⟨w.heap.size, 4, none⟩) (by simp) (.int .u32 v))
   clear X Y hB x0 x1 x2 x3 x4 x5 x6
   have X := X1
   have Y := Y1
   have hB := hB1
   clear X1 Y1 hB1 f4
   generalize (W1.setCell ⟨w.heap.size, 4, none⟩ (.int .u32 v)) = W2 at *
   have x0 := X.c0
   have x1 := X.c1
   have x2 := X.c2
   have x3 := X.c3
   have x4 := X.c4
   have x5 := X.c5
   have x6 := X.c6
   simp only at x0 x1 x2 x3 x4 x5 x6
   have Z := bX.row Y { t with tot := v }
   have hB2 := aB hB (vl { t with tot := v }).toArray (g := w.heap.size + 1) (by omega)
   go_wp2_with (first | (refine bW rfl (.tmp 3) rfl rfl X ?_) | (refine dW rfl (.tmp 6) (.tmp 125) rfl rfl (t := { t with tot := v }) rfl Y ?_))
   exact dM
 . exact jX
 . exact jX
 . exact jX
theorem aJi (t : Wd) (o v : Int) (w : World) (h : t.ok) (o0 : 0 <= o) (o1 : o < 4294967296) (v0 : 0 <= v) (v1 : v < 4294967296) (ho : o = 0) (hf : t.fa = 0) (hlk : t.lk = true) :
 Calls prog 124 #[.agg (vl t).toArray, .int .u32 o, .int .u32 v] w (oQ t o v w) := by
 have hB0 := aE (aE (aH w) (oV t)) zV
 have X0 : bX ((w.alloc (oV t)).alloc zV) w.heap.size t := bM w (oV t) zV
 have Y0 : bX ((w.alloc (oV t)).alloc zV) (w.heap.size + 1) wz := bU w (oV t) zV
 subst ho
 have hs0 : t.sto 0 v = t.ctlPut v := by unfold Wd.sto; rw [if_neg (by simp [hf]), if_pos rfl]
 obtain ⟨R, hR⟩ : ∃ R, t.sto 0 v = R := ⟨_, rfl⟩
 rw [hR] at hs0
 have HR := Hd hR
 have HL := Hd (fun w => by have := nH t 0 w h o0 o1; rw [show eS 0 = 0 from rfl] at this; exact this)
 have q0 : (t.fa != 0) = false := by simp [hf]
 have hs : R = t := by rw [hs0]; unfold Wd.ctlPut; rw [if_pos hlk]
 clear h hR hs0
 have Hlk := Hd hlk
 have Hf := Hd hf
 clear hlk hf
 go_enter func124, ntmps124
 go_upto_region 1 with (fail)
 rw [eH, fX]
 generalize ((w.alloc (oV t)).alloc zV) = W at *
 go_wp2_with (refine bW rfl (.tmp 3) rfl rfl X0 ?_)
 refine (HL.out _).mono ?_
 rintro e W1 ⟨rfl, hb⟩
 have X := X0.below hb
 have Y := Y0.below hb
 have hB := tr hB0 hb
 clear X0 Y0 hB0 hb HL
 have x0 := X.c0
 have x1 := X.c1
 have x2 := X.c2
 have x3 := X.c3
 have x4 := X.c4
 have x5 := X.c5
 have x6 := X.c6
 rw [Hlk.out] at x1
 have Z := bX.row Y t
 have hB2 := aB hB (vl t).toArray (g := w.heap.size + 1) (by omega)
 go_wp2_with (first | (refine bW rfl (.tmp 3) rfl rfl X ?_) | (refine dW rfl (.tmp 6) (.tmp 37) rfl rfl (t := t) rfl Y ?_))
 exact dM
theorem rA {P : Prop} (h : P := by
 have Hen := Hd hen
 have Hlk := Hd hlk
 have Hf := Hd hf
 clear hen hlk hf
 go_enter func124, ntmps124
 go_upto_region 1 with (fail)
 rw [eH, fX]
 generalize ((w.alloc (oV t)).alloc zV) = W at *
 go_wp2_with (refine bW rfl (.tmp 3) rfl rfl X0 ?_)
 refine (HL.out _).mono ?_
 rintro e W1 ⟨rfl, hb⟩
 have X := X0.below hb
 have Y := Y0.below hb
 have hB := tr hB0 hb
 clear X0 Y0 hB0 hb HL
 have x0 := X.c0
 have x1 := X.c1
 have x2 := X.c2
 have x3 := X.c3
 have x4 := X.c4
 have x5 := X.c5
 have x6 := X.c6
 rw [Hen.out] at x0
 rw [Hlk.out] at x1
 have f1 := X.free 1
 go_upto_region 36 with (fail)
 have X1 : bX _ _ { t with lk := l } := (X.s1 l)
 have Y1 := (Y.other w.heap.size 1 (.bool l) (by omega))
 have hB1 := (hB.setCell (p := ⟨w.heap.size, 1, none⟩) (by simp) (.bool l))
 clear X Y hB x0 x1 x2 x3 x4 x5 x6
 have X := X1
 have Y := Y1
 have hB := hB1
 clear X1 Y1 hB1 f1
 generalize (W1.setCell ⟨w.heap.size, 1, none⟩ (.bool l)) = W3 at *
 have x0 := X.c0
 have x1 := X.c1
 have x2 := X.c2
 have x3 := X.c3
 have x4 := X.c4
 have x5 := X.c5
 have x6 := X.c6
 simp only at x0 x1 x2 x3 x4 x5 x6
 have Z := bX.row Y { t with lk := l }
 have hB2 := aB hB (vl { t with lk := l }).toArray (g := w.heap.size + 1) (by omega)
 go_wp2_with (first | (refine bW rfl (.tmp 3) rfl rfl X ?_) | (refine dW rfl (.tmp 6) (.tmp 125) rfl rfl (t := { t with lk := l }) rfl Y ?_))
 refine bodyPost_ret (qH rfl _ _ _ rfl rfl Z) rfl ⟨aBZ (hs.symm.trans HR.out.symm) rfl, hB2⟩
 ) : P := h
theorem aJj (t : Wd) (o v : Int) (w : World) (h : t.ok) (o0 : 0 <= o) (o1 : o < 4294967296) (v0 : 0 <= v) (v1 : v < 4294967296) (ho : o = 0) (hf : t.fa = 0) (hlk : t.lk = false) :
 Calls prog 124 #[.agg (vl t).toArray, .int .u32 o, .int .u32 v] w (oQ t o v w) := by
 have hB0 := aE (aE (aH w) (oV t)) zV
 have X0 : bX ((w.alloc (oV t)).alloc zV) w.heap.size t := bM w (oV t) zV
 have Y0 : bX ((w.alloc (oV t)).alloc zV) (w.heap.size + 1) wz := bU w (oV t) zV
 subst ho
 have hs0 : t.sto 0 v = t.ctlPut v := by unfold Wd.sto; rw [if_neg (by simp [hf]), if_pos rfl]
 obtain ⟨R, hR⟩ : ∃ R, t.sto 0 v = R := ⟨_, rfl⟩
 rw [hR] at hs0
 have HR := Hd hR
 have HL := Hd (fun w => by have := nH t 0 w h o0 o1; rw [show eS 0 = 0 from rfl] at this; exact this)
 have q0 : (t.fa != 0) = false := by simp [hf]
 obtain ⟨l, hlv⟩ : ∃ b, (v / 2 % 2 == 1) = b := ⟨_, rfl⟩
 obtain ⟨e, hev⟩ : ∃ b, (v % 2 == 1) = b := ⟨_, rfl⟩
 have hev0 : (v % 2 == 0) = !e := by cases e <;> simp at hev ⊢ <;> omega
 obtain ⟨lt, hlt⟩ : ∃ b, decide (t.cl < t.tot) = b := ⟨_, rfl⟩
 obtain ⟨en, hen⟩ : ∃ b, t.en = b := ⟨_, rfl⟩
 clear h hR
 cases en <;> cases e <;> simp only [Bool.not_true, Bool.not_false] at hev0
 . have hs : R = { t with lk := l } := by rw [<- hlv]; exact hs0.trans (kZ hlk (fun h => by simp at hev; omega) (fun h => by rw [hen] at h; simp at h))
   clear hs0
   clear hlt
   exact rA
 . cases lt
   . have hs : R = { t with lk := l } := by rw [<- hlv]; exact hs0.trans (kZ hlk (fun h => by simp at hlt; omega) (fun h => by rw [hen] at h; simp at h))
     clear hs0
     exact rA
   . have hs : R = { t with en := true, si := 0, ar := false, lk := l } := by rw [<- hlv]; exact hs0.trans (aFm hlk hen (by simpa using hev) (by simpa using hlt))
     clear hs0
     have Hen := Hd hen
     have Hlk := Hd hlk
     have Hf := Hd hf
     clear hen hlk hf
     go_enter func124, ntmps124
     go_upto_region 1 with (fail)
     rw [eH, fX]
     generalize ((w.alloc (oV t)).alloc zV) = W at *
     go_wp2_with (refine bW rfl (.tmp 3) rfl rfl X0 ?_)
     refine (HL.out _).mono ?_
     rintro e W1 ⟨rfl, hb⟩
     have X := X0.below hb
     have Y := Y0.below hb
     have hB := tr hB0 hb
     clear X0 Y0 hB0 hb HL
     have x0 := X.c0
     have x1 := X.c1
     have x2 := X.c2
     have x3 := X.c3
     have x4 := X.c4
     have x5 := X.c5
     have x6 := X.c6
     rw [Hen.out] at x0
     rw [Hlk.out] at x1
     have f0 := X.free 0
     have f5 := X.free 5
     have f2 := X.free 2
     go_upto_region 14 with (fail)
     have X1 : bX _ _ { t with en := true, si := 0, ar := false } := (((X.s0 true).s5 0).s2 false)
     have Y1 := (((Y.other w.heap.size 0 (.bool true) (by omega)).other w.heap.size 5 (.int .u64 0) (by omega)).other w.heap.size 2 (.bool false) (by omega))
     have hB1 := (((hB.setCell (p := ⟨w.heap.size, 0, none⟩) (by simp) (.bool true)).setCell (p := ⟨w.heap.size, 5, none⟩) (by simp) (.int .u64 0)).setCell (p := ⟨w.heap.size, 2, none⟩) (by simp) (.bool false))
     clear X Y hB x0 x1 x2 x3 x4 x5 x6
     have X := X1
     have Y := Y1
     have hB := hB1
     clear X1 Y1 hB1 f0 f5 f2
     generalize (((W1.setCell ⟨w.heap.size, 0, none⟩ (.bool true)).setCell ⟨w.heap.size, 5, none⟩ (.int .u64 0)).setCell ⟨w.heap.size, 2, none⟩ (.bool false)) = W2 at *
     have x0 := X.c0
     have x1 := X.c1
     have x2 := X.c2
     have x3 := X.c3
     have x4 := X.c4
     have x5 := X.c5
     have x6 := X.c6
     simp only at x0 x1 x2 x3 x4 x5 x6
     have f1 := X.free 1
     go_upto_region 36 with (fail)
     have X1 : bX _ _ { t with en := true, si := 0, ar := false, lk := l } := (X.s1 l)
     have Y1 := (Y.other w.heap.size 1 (.bool l) (by omega))
     have hB1 := (hB.setCell (p := ⟨w.heap.size, 1, none⟩) (by simp) (.bool l))
     clear X Y hB x0 x1 x2 x3 x4 x5 x6
     have X := X1
     have Y := Y1
     have hB := hB1
     clear X1 Y1 hB1 f1
     generalize (W2.setCell ⟨w.heap.size, 1, none⟩ (.bool l)) = W3 at *
     have x0 := X.c0
     have x1 := X.c1
     have x2 := X.c2
     have x3 := X.c3
     have x4 := X.c4
     have x5 := X.c5
     have x6 := X.c6
     simp only at x0 x1 x2 x3 x4 x5 x6
     have Z := bX.row Y { t with en := true, si := 0, ar := false, lk := l }
     have hB2 := aB hB (vl { t with en := true, si := 0, ar := false, lk := l }).toArray (g := w.heap.size + 1) (by omega)
     go_wp2_with (first | (refine bW rfl (.tmp 3) rfl rfl X ?_) | (refine dW rfl (.tmp 6) (.tmp 125) rfl rfl (t := { t with en := true, si := 0, ar := false, lk := l }) rfl Y ?_))
     exact dM
 . have hs : R = { t with en := false, si := 0, ar := false, lk := l } := by rw [<- hlv]; exact hs0.trans (aDT hlk hen (by simp at hev; omega))
   clear hs0
   clear hlt
   have Hen := Hd hen
   have Hlk := Hd hlk
   have Hf := Hd hf
   clear hen hlk hf
   go_enter func124, ntmps124
   go_upto_region 1 with (fail)
   rw [eH, fX]
   generalize ((w.alloc (oV t)).alloc zV) = W at *
   go_wp2_with (refine bW rfl (.tmp 3) rfl rfl X0 ?_)
   refine (HL.out _).mono ?_
   rintro e W1 ⟨rfl, hb⟩
   have X := X0.below hb
   have Y := Y0.below hb
   have hB := tr hB0 hb
   clear X0 Y0 hB0 hb HL
   have x0 := X.c0
   have x1 := X.c1
   have x2 := X.c2
   have x3 := X.c3
   have x4 := X.c4
   have x5 := X.c5
   have x6 := X.c6
   rw [Hen.out] at x0
   rw [Hlk.out] at x1
   have f0 := X.free 0
   have f5 := X.free 5
   have f2 := X.free 2
   go_upto_region 14 with (fail)
   have X1 : bX _ _ { t with en := false, si := 0, ar := false } := (((X.s0 false).s5 0).s2 false)
   have Y1 := (((Y.other w.heap.size 0 (.bool false) (by omega)).other w.heap.size 5 (.int .u64 0) (by omega)).other w.heap.size 2 (.bool false) (by omega))
   have hB1 := (((hB.setCell (p := ⟨w.heap.size, 0, none⟩) (by simp) (.bool false)).setCell (p := ⟨w.heap.size, 5, none⟩) (by simp) (.int .u64 0)).setCell (p := ⟨w.heap.size, 2, none⟩) (by simp) (.bool false))
   clear X Y hB x0 x1 x2 x3 x4 x5 x6
   have X := X1
   have Y := Y1
   have hB := hB1
   clear X1 Y1 hB1 f0 f5 f2
   generalize (((W1.setCell ⟨w.heap.size, 0, none⟩ (.bool false)).setCell ⟨w.heap.size, 5, none⟩ (.int .u64 0)).setCell ⟨w.heap.size, 2, none⟩ (.bool false)) = W2 at *
   have x0 := X.c0
   have x1 := X.c1
   have x2 := X.c2
   have x3 := X.c3
   have x4 := X.c4
   have x5 := X.c5
   have x6 := X.c6
   simp only at x0 x1 x2 x3 x4 x5 x6
   have f1 := X.free 1
   go_upto_region 36 with (fail)
   have X1 : bX _ _ { t with en := false, si := 0, ar := false, lk := l } := (X.s1 l)
   have Y1 := (Y.other w.heap.size 1 (.bool l) (by omega))
   have hB1 := (hB.setCell (p := ⟨w.heap.size, 1, none⟩) (by simp) (.bool l))
   clear X Y hB x0 x1 x2 x3 x4 x5 x6
   have X := X1
   have Y := Y1
   have hB := hB1
   clear X1 Y1 hB1 f1
   generalize (W2.setCell ⟨w.heap.size, 1, none⟩ (.bool l)) = W3 at *
   have x0 := X.c0
   have x1 := X.c1
   have x2 := X.c2
   have x3 := X.c3
   have x4 := X.c4
   have x5 := X.c5
   have x6 := X.c6
   simp only at x0 x1 x2 x3 x4 x5 x6
   have Z := bX.row Y { t with en := false, si := 0, ar := false, lk := l }
   have hB2 := aB hB (vl { t with en := false, si := 0, ar := false, lk := l }).toArray (g := w.heap.size + 1) (by omega)
   go_wp2_with (first | (refine bW rfl (.tmp 3) rfl rfl X ?_) | (refine dW rfl (.tmp 6) (.tmp 125) rfl rfl (t := { t with en := false, si := 0, ar := false, lk := l }) rfl Y ?_))
   exact dM
 . have hs : R = { t with lk := l } := by rw [<- hlv]; exact hs0.trans (kZ hlk (fun h => by rw [hen] at h; simp at h) (fun h => by simp at hev; omega))
   clear hs0
   clear hlt
   exact rA
theorem aHu (t : Wd) (o v : Int) (w : World) (h : t.ok) (o0 : 0 <= o) (o1 : o < 4294967296) (v0 : 0 <= v) (v1 : v < 4294967296) (ho : o = 12) (hf : t.fa = 0) (hen : t.en = false) :
 Calls prog 124 #[.agg (vl t).toArray, .int .u32 o, .int .u32 v] w (oQ t o v w) := by
 have hB0 := aE (aE (aH w) (oV t)) zV
 have X0 : bX ((w.alloc (oV t)).alloc zV) w.heap.size t := bM w (oV t) zV
 have Y0 : bX ((w.alloc (oV t)).alloc zV) (w.heap.size + 1) wz := bU w (oV t) zV
 subst ho
 have hs0 : t.sto 12 v = t.key v := by unfold Wd.sto; rw [if_neg (by simp [hf]), if_neg (by decide), if_neg (by decide), if_neg (by decide), if_pos rfl]
 obtain ⟨R, hR⟩ : ∃ R, t.sto 12 v = R := ⟨_, rfl⟩
 rw [hR] at hs0
 have HR := Hd hR
 have HL := Hd (fun w => by have := nH t 12 w h o0 o1; rw [show eS 12 = 0 from rfl] at this; exact this)
 have q0 : (t.fa != 0) = false := by simp [hf]
 have hs : R = t := by rw [hs0]; unfold Wd.key; rw [if_pos hen]
 clear h hR hs0
 have Hen := Hd hen
 have Hf := Hd hf
 clear hen hf
 go_enter func124, ntmps124
 go_upto_region 1 with (fail)
 rw [eH, fX]
 generalize ((w.alloc (oV t)).alloc zV) = W at *
 go_wp2_with (refine bW rfl (.tmp 3) rfl rfl X0 ?_)
 refine (HL.out _).mono ?_
 rintro e W1 ⟨rfl, hb⟩
 have X := X0.below hb
 have Y := Y0.below hb
 have hB := tr hB0 hb
 clear X0 Y0 hB0 hb HL
 have x0 := X.c0
 have x1 := X.c1
 have x2 := X.c2
 have x3 := X.c3
 have x4 := X.c4
 have x5 := X.c5
 have x6 := X.c6
 rw [Hen.out] at x0
 have Z := bX.row Y t
 have hB2 := aB hB (vl t).toArray (g := w.heap.size + 1) (by omega)
 go_wp2_with (first | (refine bW rfl (.tmp 3) rfl rfl X ?_) | (refine dW rfl (.tmp 6) (.tmp 106) rfl rfl (t := t) rfl Y ?_))
 exact dM
theorem aJh (t : Wd) (o v : Int) (w : World) (h : t.ok) (o0 : 0 <= o) (o1 : o < 4294967296) (v0 : 0 <= v) (v1 : v < 4294967296) (ho : o = 12) (hf : t.fa = 0) (hen : t.en = true) :
 Calls prog 124 #[.agg (vl t).toArray, .int .u32 o, .int .u32 v] w (oQ t o v w) := by
 have hB0 := aE (aE (aH w) (oV t)) zV
 have X0 : bX ((w.alloc (oV t)).alloc zV) w.heap.size t := bM w (oV t) zV
 have Y0 : bX ((w.alloc (oV t)).alloc zV) (w.heap.size + 1) wz := bU w (oV t) zV
 subst ho
 have hs0 : t.sto 12 v = t.key v := by unfold Wd.sto; rw [if_neg (by simp [hf]), if_neg (by decide), if_neg (by decide), if_neg (by decide), if_pos rfl]
 obtain ⟨R, hR⟩ : ∃ R, t.sto 12 v = R := ⟨_, rfl⟩
 rw [hR] at hs0
 have HR := Hd hR
 have HL := Hd (fun w => by have := nH t 12 w h o0 o1; rw [show eS 12 = 0 from rfl] at this; exact this)
 have q0 : (t.fa != 0) = false := by simp [hf]
 have hc0 := h.c0
 have hc1 := h.c1
 obtain ⟨sh, hsh⟩ : ∃ b, decide (t.si < t.cl) = b := ⟨_, rfl⟩
 clear h hR
 by_cases h1 : v = 23130
 . have hs : R = { t with ar := true } := hs0.trans (aDZ hen h1)
   clear hs0
   have Hen := Hd hen
   have Hf := Hd hf
   clear hen hf
   go_enter func124, ntmps124
   go_upto_region 1 with (fail)
   rw [eH, fX]
   generalize ((w.alloc (oV t)).alloc zV) = W at *
   go_wp2_with (refine bW rfl (.tmp 3) rfl rfl X0 ?_)
   refine (HL.out _).mono ?_
   rintro e W1 ⟨rfl, hb⟩
   have X := X0.below hb
   have Y := Y0.below hb
   have hB := tr hB0 hb
   clear X0 Y0 hB0 hb HL
   have x0 := X.c0
   have x1 := X.c1
   have x2 := X.c2
   have x3 := X.c3
   have x4 := X.c4
   have x5 := X.c5
   have x6 := X.c6
   rw [Hen.out] at x0
   subst h1
   have f2 := X.free 2
   go_upto_region 27 with (fail)
   have X1 : bX _ _ { t with ar := true } := (X.s2 true)
   have Y1 := (Y.other w.heap.size 2 (.bool true) (by omega))
   have hB1 := (hB.setCell (p := ⟨w.heap.size, 2, none⟩) (by simp) (.bool true))
   clear X Y hB x0 x1 x2 x3 x4 x5 x6
   have X := X1
   have Y := Y1
   have hB := hB1
   clear X1 Y1 hB1 f2
   generalize (W1.setCell ⟨w.heap.size, 2, none⟩ (.bool true)) = W2 at *
   have x0 := X.c0
   have x1 := X.c1
   have x2 := X.c2
   have x3 := X.c3
   have x4 := X.c4
   have x5 := X.c5
   have x6 := X.c6
   simp only at x0 x1 x2 x3 x4 x5 x6
   have Z := bX.row Y { t with ar := true }
   have hB2 := aB hB (vl { t with ar := true }).toArray (g := w.heap.size + 1) (by omega)
   go_wp2_with (first | (refine bW rfl (.tmp 3) rfl rfl X ?_) | (refine dW rfl (.tmp 6) (.tmp 110) rfl rfl (t := { t with ar := true }) rfl Y ?_))
   exact dM
 . have q1 : (v == 23130) = false := by simpa using h1
   by_cases h2 : v = 42405
   . obtain ⟨ar, har⟩ : ∃ b, t.ar = b := ⟨_, rfl⟩
     cases ar <;> cases sh
     . have hs : R = { t with ar := false } := hs0.trans (zZ hen h1 (by rw [har]; simp) (by simpa using hsh))
       clear hs0
       have Hen := Hd hen
       have Hf := Hd hf
       have Har := Hd har
       clear hen hf har
       go_enter func124, ntmps124
       go_upto_region 1 with (fail)
       rw [eH, fX]
       generalize ((w.alloc (oV t)).alloc zV) = W at *
       go_wp2_with (refine bW rfl (.tmp 3) rfl rfl X0 ?_)
       refine (HL.out _).mono ?_
       rintro e W1 ⟨rfl, hb⟩
       have X := X0.below hb
       have Y := Y0.below hb
       have hB := tr hB0 hb
       clear X0 Y0 hB0 hb HL
       have x0 := X.c0
       have x1 := X.c1
       have x2 := X.c2
       have x3 := X.c3
       have x4 := X.c4
       have x5 := X.c5
       have x6 := X.c6
       rw [Hen.out] at x0
       rw [Har.out] at x2
       subst h2
       have f2 := X.free 2
       go_upto_region 36 with (fail)
       have X1 : bX _ _ { t with ar := false } := (X.s2 false)
       have Y1 := (Y.other w.heap.size 2 (.bool false) (by omega))
       have hB1 := (hB.setCell (p := ⟨w.heap.size, 2, none⟩) (by simp) (.bool false))
       clear X Y hB x0 x1 x2 x3 x4 x5 x6
       have X := X1
       have Y := Y1
       have hB := hB1
       clear X1 Y1 hB1 f2
       generalize (W1.setCell ⟨w.heap.size, 2, none⟩ (.bool false)) = W2 at *
       have x0 := X.c0
       have x1 := X.c1
       have x2 := X.c2
       have x3 := X.c3
       have x4 := X.c4
       have x5 := X.c5
       have x6 := X.c6
       simp only at x0 x1 x2 x3 x4 x5 x6
       have Z := bX.row Y { t with ar := false }
       have hB2 := aB hB (vl { t with ar := false }).toArray (g := w.heap.size + 1) (by omega)
       go_wp2_with (first | (refine bW rfl (.tmp 3) rfl rfl X ?_) | (refine dW rfl (.tmp 6) (.tmp 125) rfl rfl (t := { t with ar := false }) rfl Y ?_))
       exact dM
     . have hs : R = { t with fa := 8 } := hs0.trans (oB hen h1 (by rw [har]; simp) (by simpa using hsh))
       clear hs0
       have Hen := Hd hen
       have Hf := Hd hf
       have Har := Hd har
       clear hen hf har
       go_enter func124, ntmps124
       go_upto_region 1 with (fail)
       rw [eH, fX]
       generalize ((w.alloc (oV t)).alloc zV) = W at *
       go_wp2_with (refine bW rfl (.tmp 3) rfl rfl X0 ?_)
       refine (HL.out _).mono ?_
       rintro e W1 ⟨rfl, hb⟩
       have X := X0.below hb
       have Y := Y0.below hb
       have hB := tr hB0 hb
       clear X0 Y0 hB0 hb HL
       have x0 := X.c0
       have x1 := X.c1
       have x2 := X.c2
       have x3 := X.c3
       have x4 := X.c4
       have x5 := X.c5
       have x6 := X.c6
       rw [Hen.out] at x0
       rw [Har.out] at x2
       subst h2
       have f6 := X.free 6
       go_upto_region 36 with (fail)
       have X1 : bX _ _ { t with fa := 8 } := (X.s6 8)
       have Y1 := (Y.other w.heap.size 6 (.int .i64 8) (by omega))
       have hB1 := (hB.setCell (p := ⟨w.heap.size, 6, none⟩) (by simp) (.int .i64 8))
       clear X Y hB x0 x1 x2 x3 x4 x5 x6
       have X := X1
       have Y := Y1
       have hB := hB1
       clear X1 Y1 hB1 f6
       generalize (W1.setCell ⟨w.heap.size, 6, none⟩ (.int .i64 8)) = W2 at *
       have x0 := X.c0
       have x1 := X.c1
       have x2 := X.c2
       have x3 := X.c3
       have x4 := X.c4
       have x5 := X.c5
       have x6 := X.c6
       simp only at x0 x1 x2 x3 x4 x5 x6
       have Z := bX.row Y { t with fa := 8 }
       have hB2 := aB hB (vl { t with fa := 8 }).toArray (g := w.heap.size + 1) (by omega)
       go_wp2_with (first | (refine bW rfl (.tmp 3) rfl rfl X ?_) | (refine dW rfl (.tmp 6) (.tmp 125) rfl rfl (t := { t with fa := 8 }) rfl Y ?_))
       exact dM
     . have hs : R = { t with si := 0, ar := false } := hs0.trans (aBB hen h2 har (by simpa using hsh))
       clear hs0
       have Hen := Hd hen
       have Hf := Hd hf
       have Har := Hd har
       clear hen hf har
       go_enter func124, ntmps124
       go_upto_region 1 with (fail)
       rw [eH, fX]
       generalize ((w.alloc (oV t)).alloc zV) = W at *
       go_wp2_with (refine bW rfl (.tmp 3) rfl rfl X0 ?_)
       refine (HL.out _).mono ?_
       rintro e W1 ⟨rfl, hb⟩
       have X := X0.below hb
       have Y := Y0.below hb
       have hB := tr hB0 hb
       clear X0 Y0 hB0 hb HL
       have x0 := X.c0
       have x1 := X.c1
       have x2 := X.c2
       have x3 := X.c3
       have x4 := X.c4
       have x5 := X.c5
       have x6 := X.c6
       rw [Hen.out] at x0
       rw [Har.out] at x2
       subst h2
       have f5 := X.free 5
       have f2 := X.free 2
       go_upto_region 32 with (fail)
       have X1 : bX _ _ { t with si := 0, ar := false } := ((X.s5 0).s2 false)
       have Y1 := ((Y.other w.heap.size 5 (.int .u64 0) (by omega)).other w.heap.size 2 (.bool false) (by omega))
       have hB1 := ((hB.setCell (p := ⟨w.heap.size, 5, none⟩) (by simp) (.int .u64 0)).setCell (p := ⟨w.heap.size, 2, none⟩) (by simp) (.bool false))
       clear X Y hB x0 x1 x2 x3 x4 x5 x6
       have X := X1
       have Y := Y1
       have hB := hB1
       clear X1 Y1 hB1 f5 f2
       generalize ((W1.setCell ⟨w.heap.size, 5, none⟩ (.int .u64 0)).setCell ⟨w.heap.size, 2, none⟩ (.bool false)) = W2 at *
       have x0 := X.c0
       have x1 := X.c1
       have x2 := X.c2
       have x3 := X.c3
       have x4 := X.c4
       have x5 := X.c5
       have x6 := X.c6
       simp only at x0 x1 x2 x3 x4 x5 x6
       have Z := bX.row Y { t with si := 0, ar := false }
       have hB2 := aB hB (vl { t with si := 0, ar := false }).toArray (g := w.heap.size + 1) (by omega)
       go_wp2_with (first | (refine bW rfl (.tmp 3) rfl rfl X ?_) | (refine dW rfl (.tmp 6) (.tmp 121) rfl rfl (t := { t with si := 0, ar := false }) rfl Y ?_))
       exact dM
     . have hs : R = { t with fa := 4 } := hs0.trans (yD hen h2 har (by simpa using hsh))
       clear hs0
       have Hen := Hd hen
       have Hf := Hd hf
       have Har := Hd har
       clear hen hf har
       go_enter func124, ntmps124
       go_upto_region 1 with (fail)
       rw [eH, fX]
       generalize ((w.alloc (oV t)).alloc zV) = W at *
       go_wp2_with (refine bW rfl (.tmp 3) rfl rfl X0 ?_)
       refine (HL.out _).mono ?_
       rintro e W1 ⟨rfl, hb⟩
       have X := X0.below hb
       have Y := Y0.below hb
       have hB := tr hB0 hb
       clear X0 Y0 hB0 hb HL
       have x0 := X.c0
       have x1 := X.c1
       have x2 := X.c2
       have x3 := X.c3
       have x4 := X.c4
       have x5 := X.c5
       have x6 := X.c6
       rw [Hen.out] at x0
       rw [Har.out] at x2
       subst h2
       have f6 := X.free 6
       go_upto_region 32 with (fail)
       have X1 : bX _ _ { t with fa := 4 } := (X.s6 4)
       have Y1 := (Y.other w.heap.size 6 (.int .i64 4) (by omega))
       have hB1 := (hB.setCell (p := ⟨w.heap.size, 6, none⟩) (by simp) (.int .i64 4))
       clear X Y hB x0 x1 x2 x3 x4 x5 x6
       have X := X1
       have Y := Y1
       have hB := hB1
       clear X1 Y1 hB1 f6
       generalize (W1.setCell ⟨w.heap.size, 6, none⟩ (.int .i64 4)) = W2 at *
       have x0 := X.c0
       have x1 := X.c1
       have x2 := X.c2
       have x3 := X.c3
       have x4 := X.c4
       have x5 := X.c5
       have x6 := X.c6
       simp only at x0 x1 x2 x3 x4 x5 x6
       have Z := bX.row Y { t with fa := 4 }
       have hB2 := aB hB (vl { t with fa := 4 }).toArray (g := w.heap.size + 1) (by omega)
       go_wp2_with (first | (refine bW rfl (.tmp 3) rfl rfl X ?_) | (refine dW rfl (.tmp 6) (.tmp 121) rfl rfl (t := { t with fa := 4 }) rfl Y ?_))
       exact dM
   . have q2 : (v == 42405) = false := by simpa using h2
     cases sh
     . have hs : R = { t with ar := false } := hs0.trans (zZ hen h1 (fun e => h2 e.1) (by simpa using hsh))
       clear hs0
       have Hen := Hd hen
       have Hf := Hd hf
       clear hen hf
       go_enter func124, ntmps124
       go_upto_region 1 with (fail)
       rw [eH, fX]
       generalize ((w.alloc (oV t)).alloc zV) = W at *
       go_wp2_with (refine bW rfl (.tmp 3) rfl rfl X0 ?_)
       refine (HL.out _).mono ?_
       rintro e W1 ⟨rfl, hb⟩
       have X := X0.below hb
       have Y := Y0.below hb
       have hB := tr hB0 hb
       clear X0 Y0 hB0 hb HL
       have x0 := X.c0
       have x1 := X.c1
       have x2 := X.c2
       have x3 := X.c3
       have x4 := X.c4
       have x5 := X.c5
       have x6 := X.c6
       rw [Hen.out] at x0
       have f2 := X.free 2
       go_upto_region 36 with (fail)
       have X1 : bX _ _ { t with ar := false } := (X.s2 false)
       have Y1 := (Y.other w.heap.size 2 (.bool false) (by omega))
       have hB1 := (hB.setCell (p := ⟨w.heap.size, 2, none⟩) (by simp) (.bool false))
       clear X Y hB x0 x1 x2 x3 x4 x5 x6
       have X := X1
       have Y := Y1
       have hB := hB1
       clear X1 Y1 hB1 f2
       generalize (W1.setCell ⟨w.heap.size, 2, none⟩ (.bool false)) = W2 at *
       have x0 := X.c0
       have x1 := X.c1
       have x2 := X.c2
       have x3 := X.c3
       have x4 := X.c4
       have x5 := X.c5
       have x6 := X.c6
       simp only at x0 x1 x2 x3 x4 x5 x6
       have Z := bX.row Y { t with ar := false }
       have hB2 := aB hB (vl { t with ar := false }).toArray (g := w.heap.size + 1) (by omega)
       go_wp2_with (first | (refine bW rfl (.tmp 3) rfl rfl X ?_) | (refine dW rfl (.tmp 6) (.tmp 125) rfl rfl (t := { t with ar := false }) rfl Y ?_))
       exact dM
     . have hs : R = { t with fa := 8 } := hs0.trans (oB hen h1 (fun e => h2 e.1) (by simpa using hsh))
       clear hs0
       have Hen := Hd hen
       have Hf := Hd hf
       clear hen hf
       go_enter func124, ntmps124
       go_upto_region 1 with (fail)
       rw [eH, fX]
       generalize ((w.alloc (oV t)).alloc zV) = W at *
       go_wp2_with (refine bW rfl (.tmp 3) rfl rfl X0 ?_)
       refine (HL.out _).mono ?_
       rintro e W1 ⟨rfl, hb⟩
       have X := X0.below hb
       have Y := Y0.below hb
       have hB := tr hB0 hb
       clear X0 Y0 hB0 hb HL
       have x0 := X.c0
       have x1 := X.c1
       have x2 := X.c2
       have x3 := X.c3
       have x4 := X.c4
       have x5 := X.c5
       have x6 := X.c6
       rw [Hen.out] at x0
       have f6 := X.free 6
       go_upto_region 36 with (fail)
       have X1 : bX _ _ { t with fa := 8 } := (X.s6 8)
       have Y1 := (Y.other w.heap.size 6 (.int .i64 8) (by omega))
       have hB1 := (hB.setCell (p := ⟨w.heap.size, 6, none⟩) (by simp) (.int .i64 8))
       clear X Y hB x0 x1 x2 x3 x4 x5 x6
       have X := X1
       have Y := Y1
       have hB := hB1
       clear X1 Y1 hB1 f6
       generalize (W1.setCell ⟨w.heap.size, 6, none⟩ (.int .i64 8)) = W2 at *
       have x0 := X.c0
       have x1 := X.c1
       have x2 := X.c2
       have x3 := X.c3
       have x4 := X.c4
       have x5 := X.c5
       have x6 := X.c6
       simp only at x0 x1 x2 x3 x4 x5 x6
       have Z := bX.row Y { t with fa := 8 }
       have hB2 := aB hB (vl { t with fa := 8 }).toArray (g := w.heap.size + 1) (by omega)
       go_wp2_with (first | (refine bW rfl (.tmp 3) rfl rfl X ?_) | (refine dW rfl (.tmp 6) (.tmp 125) rfl rfl (t := { t with fa := 8 }) rfl Y ?_))
       exact dM
theorem aHt (t : Wd) (o v : Int) (w : World) (h : t.ok) (o0 : 0 <= o) (o1 : o < 4294967296) (v0 : 0 <= v) (v1 : v < 4294967296) :
 Calls prog 124 #[.agg (vl t).toArray, .int .u32 o, .int .u32 v] w (oQ t o v w) := by
 by_cases he : eS o = 0
 . have h5 := oJ o0 he
   by_cases h16 : o = 16
   . exact aJk t o v w h o0 o1 v0 v1 h16
   . have h4 : o = 0 \/ o = 4 \/ o = 8 \/ o = 12 := by omega
     by_cases hf : t.fa = 0
     . rcases h4 with ho | ho | ho | ho
       . cases hlk : t.lk
         . exact aJj t o v w h o0 o1 v0 v1 ho hf hlk
         . exact aJi t o v w h o0 o1 v0 v1 ho hf hlk
       . exact aJe t o v w h o0 o1 v0 v1 ho hf
       . exact aJl t o v w h o0 o1 v0 v1 ho hf
       . cases hen : t.en
         . exact aHu t o v w h o0 o1 v0 v1 ho hf hen
         . exact aJh t o v w h o0 o1 v0 v1 ho hf hen
     . exact aJg t o v w h o0 o1 v0 v1 h4 hf
 . exact aJf t o v w h o0 o1 v0 v1 he
end Go.Proofs.YtaohacadochldaaGreat.B
