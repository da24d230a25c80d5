/- A part of the proof of a law of layer 12: bi. -/
import Derived.Test.YtaohacadochldaaGreatZCbe
set_option linter.unusedVariables false
set_option linter.unusedSimpArgs false
set_option maxHeartbeats 12800000
set_option maxRecDepth 100000
namespace Go.Proofs.YtaohacadochldaaGreat.B
open Go.Proofs.Tryz
open Go.ChangeShapes Go.WideShapes Go.RowKit Go.Sort
theorem qX {P : Prop} (h : P := by
 go_wp2_with fail
 go_ret2
 exact ⟨(congrArg (fun x => Ending.returned (.tuple #[.int .u32 x, .int .i64 0])) HV.out), hb⟩
 ) : P := h
theorem wR {P : Prop} (h : P := by
 clear he hv
 go_enter func131, ntmps131
 go_upto_region 1 with (fail)
 rw [iJ]
 generalize w.alloc (oU (aO t.ca) t.la t.ct t.qs) = W at *
 go_wp2_with fail
 go_ret2
 exact ⟨(congrArg (fun x => Ending.returned (.tuple #[.int .u32 0, .int .i64 x])) HE.out.symm), hb⟩
 ) : P := h
theorem vI (t : Rs) (o : Int) (w : World) (h : t.ok) (o0 : 0 <= o) (o1 : o < 4294967296) : Calls prog 131 #[.agg (ul t).toArray, .int .u32 o] w fun e w' => e = .returned (.tuple #[.int .u32 (iP t o), .int .i64 (dD o)]) /\ Below w.heap.size w w' := by
 have X := aKq w (aO t.ca) t.la t.ct t.qs
 have hb := aE (aH w) (oU (aO t.ca) t.la t.ct t.qs)
 have a0 := h.a0
 have a1 := h.a1
 have l0 := h.l0
 have l1 := h.l1
 unfold ul
 by_cases he : dD o = 0
 . rcases lV o0 he with rfl | rfl | rfl | rfl
   . have HV := Hd (show t.ca = iP t 0 from rfl)
     rw [aC5]
     clear he
     go_enter func131, ntmps131
     go_upto_region 1 with (fail)
     rw [iJ]
     generalize w.alloc (oU (aO t.ca) t.la t.ct t.qs) = W at *
     go_wp2_with (refine aIp rfl (.tmp 12) rfl rfl X ?_)
     refine (aMj t.ca _ a0 a1).mono ?_
     rintro e w1 ⟨rfl, h1⟩
     go_wp2_with fail
     go_ret2
     exact ⟨(congrArg (fun x => Ending.returned (.tuple #[.int .u32 x, .int .i64 0])) HV.out), tr hb h1⟩
   . have HV := Hd (show t.ct = iP t 4 from rfl)
     rw [aHa]
     clear he
     go_enter func131, ntmps131
     go_upto_region 1 with (fail)
     rw [iJ]
     generalize w.alloc (oU (aO t.ca) t.la t.ct t.qs) = W at *
     have x := X.c33
     exact qX
   . have HV := Hd (show 0 = iP t 8 from rfl)
     rw [aC6]
     clear he
     go_enter func131, ntmps131
     go_upto_region 1 with (fail)
     rw [iJ]
     generalize w.alloc (oU (aO t.ca) t.la t.ct t.qs) = W at *
     exact qX
   . have HV := Hd (show t.la = iP t 12 from rfl)
     rw [aDz]
     clear he
     go_enter func131, ntmps131
     go_upto_region 1 with (fail)
     rw [iJ]
     generalize w.alloc (oU (aO t.ca) t.la t.ct t.qs) = W at *
     have x := X.c32
     exact qX
 . have hv : iP t o = 0 := by unfold iP; rw [if_neg he]
   rw [hv]
   cases h4 : (o % 4 != 0)
   . have HE := Hd (show dD o = 10 by unfold dD at he ⊢; rw [if_neg (by simpa using h4)] at he ⊢; split <;> simp_all)
     have n0 : (o == 0) = false := by simp; rintro rfl; exact he rfl
     have n4 : (o == 4) = false := by simp; rintro rfl; exact he rfl
     have n8 : (o == 8) = false := by simp; rintro rfl; exact he rfl
     have n12 : (o == 12) = false := by simp; rintro rfl; exact he rfl
     exact wR
   . have HE := Hd (show dD o = 11 by unfold dD; rw [if_pos (by simpa using h4)])
     exact wR
abbrev aAo (t : Rs) (o v : Int) (w : World) (e : Ending) (w' : World) : Prop := e = .returned (.tuple #[.agg (ul (t.sto o v)).toArray, .int .i64 (kP o)]) /\ Below w.heap.size w w'
theorem aBY {s t : Rs} {e f : Int} (h : s = t) (k : e = f) : Ending.returned (.tuple #[.agg (sl (aO s.ca) s.la s.ct s.qs).toArray, .int .i64 e]) = .returned (.tuple #[.agg (ul t).toArray, .int .i64 f]) := by rw [h, k]; rfl
theorem aJb (t : Rs) (o v : Int) (w : World) (h : t.ok) (o0 : 0 <= o) (o1 : o < 4294967296) (he : dD o ≠ 0) :
 Calls prog 125 #[.agg (ul t).toArray, .int .u32 o, .int .u32 v] w (aAo t o v w) := by
 have hB0 := aE (aE (aH w) (oU (aO t.ca) t.la t.ct t.qs)) zU
 have X : dS ((w.alloc (oU (aO t.ca) t.la t.ct t.qs)).alloc zU) w.heap.size (aO t.ca) t.la t.ct t.qs := bM w _ _
 have Y : dS ((w.alloc (oU (aO t.ca) t.la t.ct t.qs)).alloc zU) (w.heap.size + 1) (fun _ => false) 0 0 false := bU w _ _
 have e2 : t.sto o v = t := by
  unfold Rs.sto
  rw [if_neg (fun e => he (by rw [e]; rfl)), if_neg (fun e => he (by rw [e]; rfl))]
 have HR := Hd e2.symm
 obtain ⟨E, hE⟩ : ∃ E, dD o = E := ⟨_, rfl⟩
 obtain ⟨V, hV⟩ : ∃ V, iP t o = V := ⟨_, rfl⟩
 have HS := Hd (show E = kP o by unfold kP; rw [if_pos he, hE])
 have HL := Hd (fun w => by have := vI t o w h o0 o1; rw [hV, hE] at this; exact this)
 rw [hE] at he
 have q1 : (E != 0) = true := by simpa using he
 clear hE hV e2 he h
 unfold ul at HL ⊢
 go_enter func125, ntmps125
 go_upto_region 1 with (fail)
 rw [iJ, kK]
 generalize (w.alloc (oU (aO t.ca) t.la t.ct t.qs)).alloc zU = W at *
 go_wp2_with (refine mH rfl (.tmp 3) rfl rfl X ?_)
 refine (HL.out _).mono ?_
 rintro e W1 ⟨rfl, hb⟩
 have X1 := X.below hb
 have Y1 := Y.below hb
 have hB := tr hB0 hb
 clear X Y hB0 hb HL
 have Z := dS.row Y1 (aO t.ca) t.la t.ct t.qs
 have hB2 := aB hB (sl (aO t.ca) t.la t.ct t.qs).toArray (g := w.heap.size + 1) (by omega)
 go_wp2_with (first | (refine mH rfl (.tmp 3) rfl rfl X1 ?_) | (refine nG rfl (.tmp 6) (.tmp 20) rfl rfl (f := aO t.ca) (la := t.la) (ct := t.ct) (qs := t.qs) rfl Y1 ?_))
 exact bodyPost_ret (vA rfl _ _ _ rfl rfl Z) rfl ⟨aBY HR.out HS.out, hB2⟩
theorem aD7 (t : Rs) (o v : Int) (w : World) (h : t.ok) (ho : o = 4 \/ o = 12) :
 Calls prog 125 #[.agg (ul t).toArray, .int .u32 o, .int .u32 v] w (aAo t o v w) := by
 have hB0 := aE (aE (aH w) (oU (aO t.ca) t.la t.ct t.qs)) zU
 have X : dS ((w.alloc (oU (aO t.ca) t.la t.ct t.qs)).alloc zU) w.heap.size (aO t.ca) t.la t.ct t.qs := bM w _ _
 have Y : dS ((w.alloc (oU (aO t.ca) t.la t.ct t.qs)).alloc zU) (w.heap.size + 1) (fun _ => false) 0 0 false := bU w _ _
 have e2 : t.sto o v = t := by
  unfold Rs.sto
  rw [if_neg (by omega), if_neg (by omega)]
 have HR := Hd e2.symm
 have e3 : dD o = 0 := by rcases ho with rfl | rfl <;> rfl
 have HS := Hd (show 12 = kP o by rcases ho with rfl | rfl <;> rfl)
 obtain ⟨V, hV⟩ : ∃ V, iP t o = V := ⟨_, rfl⟩
 have HL := Hd (fun w => by have := vI t o w h (by omega) (by omega); rw [hV, e3] at this; exact this)
 clear hV e2 e3 h
 unfold ul at HL ⊢
 rcases ho with rfl | rfl
 all_goals
  go_enter func125, ntmps125
  go_upto_region 1 with (fail)
  rw [iJ, kK]
  generalize (w.alloc (oU (aO t.ca) t.la t.ct t.qs)).alloc zU = W at *
  go_wp2_with (refine mH rfl (.tmp 3) rfl rfl X ?_)
  refine (HL.out _).mono ?_
  rintro e W1 ⟨rfl, hb⟩
  have X1 := X.below hb
  have Y1 := Y.below hb
  have hB := tr hB0 hb
  clear X Y hB0 hb HL
  have Z := dS.row Y1 (aO t.ca) t.la t.ct t.qs
  have hB2 := aB hB (sl (aO t.ca) t.la t.ct t.qs).toArray (g := w.heap.size + 1) (by omega)
  go_wp2_with (first | (refine mH rfl (.tmp 3) rfl rfl X1 ?_) | (refine nG rfl (.tmp 6) (.tmp 28) rfl rfl (f := aO t.ca) (la := t.la) (ct := t.ct) (qs := t.qs) rfl Y1 ?_))
  exact bodyPost_ret (vA rfl _ _ _ rfl rfl Z) rfl ⟨aBY HR.out HS.out, hB2⟩
theorem aJa (t : Rs) (v : Int) (w : World) (h : t.ok) (v0 : 0 <= v) (v1 : v < 4294967296) :
 Calls prog 125 #[.agg (ul t).toArray, .int .u32 8, .int .u32 v] w (aAo t 8 v w) := by
 have hB0 := aE (aE (aH w) (oU (aO t.ca) t.la t.ct t.qs)) zU
 have X : dS ((w.alloc (oU (aO t.ca) t.la t.ct t.qs)).alloc zU) w.heap.size (aO t.ca) t.la t.ct t.qs := bM w _ _
 have Y : dS ((w.alloc (oU (aO t.ca) t.la t.ct t.qs)).alloc zU) (w.heap.size + 1) (fun _ => false) 0 0 false := bU w _ _
 have HS := Hd (show 0 = kP 8 from rfl)
 obtain ⟨V, hV⟩ : ∃ V, iP t 8 = V := ⟨_, rfl⟩
 have HL := Hd (fun w => by have := vI t 8 w h (by omega) (by omega); rw [hV, aC6] at this; exact this)
 have e2 : t.sto 8 v = t.ask v := rfl
 clear hV h
 unfold ul at HL ⊢
 cases hz : (v == 45063)
 . have HR := Hd (show t = t.sto 8 v by rw [e2]; unfold Rs.ask; rw [hz]; cases t; simp)
   clear e2
   go_enter func125, ntmps125
   go_upto_region 1 with (fail)
   rw [iJ, kK]
   generalize (w.alloc (oU (aO t.ca) t.la t.ct t.qs)).alloc zU = W at *
   go_wp2_with (refine mH rfl (.tmp 3) rfl rfl X ?_)
   refine (HL.out _).mono ?_
   rintro e W1 ⟨rfl, hb⟩
   have X1 := X.below hb
   have Y1 := Y.below hb
   have hB := tr hB0 hb
   clear X Y hB0 hb HL
   have Z := dS.row Y1 (aO t.ca) t.la t.ct t.qs
   have hB2 := aB hB (sl (aO t.ca) t.la t.ct t.qs).toArray (g := w.heap.size + 1) (by omega)
   go_wp2_with (first | (refine mH rfl (.tmp 3) rfl rfl X1 ?_) | (refine nG rfl (.tmp 6) (.tmp 57) rfl rfl (f := aO t.ca) (la := t.la) (ct := t.ct) (qs := t.qs) rfl Y1 ?_))
   exact bodyPost_ret (vA rfl _ _ _ rfl rfl Z) rfl ⟨aBY HR.out HS.out, hB2⟩
 . have HR := Hd (show ({ t with qs := true } : Rs) = t.sto 8 v by rw [e2]; unfold Rs.ask; rw [hz]; simp)
   clear e2
   go_enter func125, ntmps125
   go_upto_region 1 with (fail)
   rw [iJ, kK]
   generalize (w.alloc (oU (aO t.ca) t.la t.ct t.qs)).alloc zU = W at *
   go_wp2_with (refine mH rfl (.tmp 3) rfl rfl X ?_)
   refine (HL.out _).mono ?_
   rintro e W1 ⟨rfl, hb⟩
   have X1 := X.below hb
   have Y1 := Y.below hb
   have hB := tr hB0 hb
   clear X Y hB0 hb HL
   have x4 := X1.c34
   have f4 := X1.free 34
   have X2 := X1.s34 true
   have Y2 := Y1.other w.heap.size 34 (.bool true) (by omega)
   have hB3 := hB.setCell (p := ⟨w.heap.size, 34, none⟩) (by simp) (.bool true)
   have Z := dS.row Y2 (aO t.ca) t.la t.ct true
   have hB2 := aB hB3 (sl (aO t.ca) t.la t.ct true).toArray (g := w.heap.size + 1) (by omega)
   go_wp2_with (first | (refine mH rfl (.tmp 3) rfl rfl X2 ?_) | (refine nG rfl (.tmp 6) (.tmp 57) rfl rfl (f := aO t.ca) (la := t.la) (ct := t.ct) (qs := true) rfl Y2 ?_))
   exact bodyPost_ret (vA rfl _ _ _ rfl rfl Z) rfl ⟨aBY (s := { t with qs := true }) HR.out HS.out, hB2⟩
def clb (f g : Nat -> Bool) (k i : Nat) : Bool := if i < k then f i && !g i else f i
theorem aFl (f g : Nat -> Bool) : clb f g 0 = f := by funext i; unfold clb; simp
theorem aFk (f g : Nat -> Bool) (k : Nat) (x : Bool) (h : (f k && !g k) = x) : (fun i => if i = k then x else clb f g k i) = clb f g (k + 1) := by
 funext i
 unfold clb
 by_cases e : i = k
 . subst e; rw [if_pos rfl, if_pos (by omega), h]
 . rw [if_neg e]
   by_cases hl : i < k
   . rw [if_pos hl, if_pos (by omega)]
   . rw [if_neg hl, if_neg (by omega)]
theorem aFj (f g : Nat -> Bool) (k : Nat) : clb f g k k = f k := by unfold clb; simp
theorem aJZ (t : Rs) (v : Int) (w : World) (h : t.ok) (v0 : 0 <= v) (v1 : v < 4294967296) :
 Calls prog 125 #[.agg (ul t).toArray, .int .u32 0, .int .u32 v] w (aAo t 0 v w) := by
 have hB0 := aE (aE (aH w) (oU (aO t.ca) t.la t.ct t.qs)) zU
 have X : dS ((w.alloc (oU (aO t.ca) t.la t.ct t.qs)).alloc zU) w.heap.size (aO t.ca) t.la t.ct t.qs := bM w _ _
 have Y : dS ((w.alloc (oU (aO t.ca) t.la t.ct t.qs)).alloc zU) (w.heap.size + 1) (fun _ => false) 0 0 false := bU w _ _
 have HS := Hd (show 0 = kP 0 from rfl)
 obtain ⟨V, hV⟩ : ∃ V, iP t 0 = V := ⟨_, rfl⟩
 have HL := Hd (fun w => by have := vI t 0 w h (by omega) (by omega); rw [hV, aC5] at this; exact this)
 have HR := Hd (show t.clr v = t.sto 0 v from rfl)
 have HC := Hd (show ∀ i, i < 32 -> clb (aO t.ca) (aO v) 32 i = aO (t.clr v).ca i from fun i hi => by
  unfold clb Rs.clr
  rw [if_pos hi, kD t.ca v i hi h.a0 h.a1 v0 v1])
 clear hV h
 unfold ul at HL ⊢
 go_enter func125, ntmps125
 go_upto_region 1 with (fail)
 rw [iJ, kK]
 generalize (w.alloc (oU (aO t.ca) t.la t.ct t.qs)).alloc zU = W at *
 go_wp2_with (refine mH rfl (.tmp 3) rfl rfl X ?_)
 refine (HL.out _).mono ?_
 rintro e W1 ⟨rfl, hb⟩
 have X1 := X.below hb
 have Y1 := Y.below hb
 have hB1 := tr hB0 hb
 clear X Y hB0 hb HL
 go_wp2_with fail
 refine (aHD v _ v0 v1).mono ?_
 rintro e W2 ⟨rfl, hb⟩
 have X2 := (X1.below hb).alloc (.cells (bl (fun _ => false) 32).toArray 33)
 have Y2 := (Y1.below hb).alloc (.cells (bl (fun _ => false) 32).toArray 33)
 have Z2 := aD W2 (.cells (bl (fun _ => false) 32).toArray 33)
 have hB2 := aE (tr hB1 hb) (.cells (bl (fun _ => false) 32).toArray 33)
 have hx := (X1.below hb).lt
 have hy := (Y1.below hb).lt
 clear X1 Y1 hB1 hb
 have X3 := X2.elseRow W2.heap.size (bl (aO v) 32).toArray (by omega)
 have Y3 := Y2.elseRow W2.heap.size (bl (aO v) 32).toArray (by omega)
 have Z3 := aY (bl (aO v) 32).toArray Z2
 have hB3 := aB hB2 (bl (aO v) 32).toArray (g := W2.heap.size) (by omega)
 have ez := aAi
 go_upto_region 10 with (refine sZ rfl (.tmp 10) (.tmp 39) rfl _ _ rfl (aO v) rfl (aD _ _) (by simp [bI]) ?_)
 clear ez X2 Y2 Z2 hB2
 have es : bR (bl (fun _ => false) 32).toArray 0 (bl (aO v) 32) = (bl (aO v) 32).toArray := aW _ _ (by simp [bI])
 rw [es]
 clear es
 generalize hW : (W2.alloc (.cells (bl (fun _ => false) 32).toArray 33)).setRow W2.heap.size (bl (aO v) 32).toArray = W3 at *
 clear hW
 generalize W2.heap.size = z at *
 go_wp2_with fail
 go_loopw [11] (fun i wr => ∃ k : Nat, k <= 32 /\ i = .int .i64 k /\ dS wr w.heap.size (clb (aO t.ca) (aO v) k) t.la t.ct t.qs /\ dS wr (w.heap.size + 1) (fun _ => false) 0 0 false /\ wr.heap[z]? = some (.cells (bl (aO v) 32).toArray 33 (0, 0)) /\ Below w.heap.size w wr) (fun i _ => 32 - (intOf i).toNat)
 case atStart => exact ⟨0, by omega, rfl, by rw [aFl]; exact X3, Y3, Z3, hB3⟩
 case round =>
  clear X3 Y3 Z3 hB3
  obtain ⟨k, hk, rfl, X, Y, Z, hB⟩ := hrel
  by_cases hlt : k < 32
  . have x := X.ci k hlt
    rw [aFj] at x
    have f := X.free k
    have z' := sU Z k hlt
    have HX := Hd (fun b => X.si k b hlt)
    have HY := Hd (fun b => Y.other w.heap.size k (.bool b) (by omega))
    have HZ := Hd (fun b => aV Z w.heap.size k (.bool b) (by omega))
    have HB := Hd (fun b => hB.setCell (p := ⟨w.heap.size, k, none⟩) (by simp) (.bool b))
    have HN := Hd (fun x h => aFk (aO t.ca) (aO v) k x h)
    clear X Y Z hB
    cases hf : aO t.ca k
    . rw [hf] at x
      have HF := Hd hf
      clear hf
      go_wp2_with fail
      go_roundw
      case rel =>
       refine ⟨k + 1, by omega, by go_num, ?_, HY.out false, HZ.out false, HB.out false⟩
       rw [<- HN.out false (by rw [HF.out]; rfl)]; exact HX.out false
      case measure => simp [intOf]; omega
    . cases hg : aO v k
      . rw [hf] at x
        rw [hg] at z'
        have HF := Hd hf
        have HG := Hd hg
        clear hf hg
        go_wp2_with fail
        go_roundw
        case rel =>
         refine ⟨k + 1, by omega, by go_num, ?_, HY.out true, HZ.out true, HB.out true⟩
         rw [<- HN.out true (by rw [HF.out, HG.out]; rfl)]; exact HX.out true
        case measure => simp [intOf]; omega
      . rw [hf] at x
        rw [hg] at z'
        have HF := Hd hf
        have HG := Hd hg
        clear hf hg
        go_wp2_with fail
        go_roundw
        case rel =>
         refine ⟨k + 1, by omega, by go_num, ?_, HY.out false, HZ.out false, HB.out false⟩
         rw [<- HN.out false (by rw [HF.out, HG.out]; rfl)]; exact HX.out false
        case measure => simp [intOf]; omega
  . obtain rfl : k = 32 := by omega
    have X2 := X.congr HC.out
    have R := dS.row Y (aO (t.clr v).ca) t.la t.ct t.qs
    have hB2 := aB hB (sl (aO (t.clr v).ca) t.la t.ct t.qs).toArray (g := w.heap.size + 1) (by omega)
    clear X hB
    go_wp2_with (first | (refine mH rfl (.tmp 3) rfl rfl X2 ?_) | (refine nG rfl (.tmp 6) (.tmp 57) rfl rfl (f := aO (t.clr v).ca) (la := t.la) (ct := t.ct) (qs := t.qs) rfl Y ?_))
    exact bodyPost_ret (vA rfl _ _ _ rfl rfl R) rfl ⟨aBY (s := t.clr v) HR.out HS.out, hB2⟩
theorem aD6 (t : Rs) (o v : Int) (w : World) (h : t.ok) (o0 : 0 <= o) (o1 : o < 4294967296) (v0 : 0 <= v) (v1 : v < 4294967296) :
 Calls prog 125 #[.agg (ul t).toArray, .int .u32 o, .int .u32 v] w (aAo t o v w) := by
 by_cases he : dD o = 0
 . rcases lV o0 he with rfl | rfl | rfl | rfl
   . exact aJZ t v w h v0 v1
   . exact aD7 t 4 v w h (by omega)
   . exact aJa t v w h v0 v1
   . exact aD7 t 12 v w h (by omega)
 . exact aJb t o v w h o0 o1 he
end Go.Proofs.YtaohacadochldaaGreat.B
