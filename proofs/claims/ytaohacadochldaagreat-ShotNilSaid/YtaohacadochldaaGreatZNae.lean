/- A part of the proof of a law of layer 12: ae. -/
import Derived.Test.YtaohacadochldaaGreatZNad
import Derived.Laws.StructEq
import Derived.ChangeKeysEq
set_option linter.unusedVariables false
set_option linter.unusedSimpArgs false
set_option maxHeartbeats 12800000
set_option maxRecDepth 100000
namespace Go.Proofs.YtaohacadochldaaGreat.B
open Go.Proofs.Tryz
open Go.ChangeShapes Go.WideShapes Go.RowKit Go.Sort
theorem xC (ld v c s ph sc : Int) (w : World) (c0 : 0 <= c) (c1 : c < 4294967296) (hs : field c 8 8 = sc) (s0 : 0 <= sc) (s1 : sc < 256) :
 Calls prog 235 #[.agg (w5 ld v c s ph).toArray] w fun e w' => e = .returned (.int .u64 (sc + 1)) /\ Below w.heap.size w w' :=
 sA ld v c s ph sc w c0 c1 hs s0 s1
theorem aAC (ld v c s ph sc n : Int) (w : World) (v1 : v < 4294967296) (c0 : 0 <= c) (c1 : c < 4294967296) (hs : field c 8 8 = sc) (s0 : 0 <= sc) (s1 : sc < 256) (p0 : 0 <= ph) (p1 : ph <= sc) (n0 : 0 <= n) (n1 : n < 1099511627776)
 (q0 : 0 <= (ph + n) / (sc + 1)) (q1 : (ph + n) / (sc + 1) <= v) :
 Calls prog 285 #[.agg (w5 ld v c s ph).toArray, .int .u64 n] w fun e w' => e = .returned (.agg (w5 ld (v - (ph + n) / (sc + 1)) c s ((ph + n) % (sc + 1))).toArray) /\ Below w.heap.size w w' := by
 have hp := Hd (fun v ph w => xC ld v c s ph sc w c0 c1 hs s0 s1)
 clear hs
 have hB := aO (aO (aT w) (.cells (w5 ld v c s ph).toArray 298 (0, 0))) (.cells (w5 0 0 0 0 0).toArray 298 (0, 0))
 have X : A5 _ _ _ ld v c s ph := hJ w (.cells (w5 ld v c s ph).toArray 298 (0, 0)) (.cells (w5 0 0 0 0 0).toArray 298 (0, 0))
 have Y : A5 _ _ _ 0 0 0 0 0 := fU w (.cells (w5 ld v c s ph).toArray 298 (0, 0)) (.cells (w5 0 0 0 0 0).toArray 298 (0, 0))
 go_enter func285, ntmps285
 go_upto_region 1 with (fail)
 rw [pT]
 generalize ((w.alloc (.cells (w5 ld v c s ph).toArray 298 (0, 0))).alloc (.cells (w5 0 0 0 0 0).toArray 298 (0, 0))) = W at *
 have x4 := X.c4
 go_upto_region 2 with (fail)
 have hr : 0 <= (ph + n) % (sc + 1) /\ (ph + n) % (sc + 1) < sc + 1 := cX (by omega)
 have hl : lo ((ph + n) / (sc + 1)) = (ph + n) / (sc + 1) := by unfold lo; omega
 have hLo := Hd (fun w => by have := Lo ((ph + n) / (sc + 1)) w q0 (by omega); rw [hl] at this; exact this)
 have hk : 0 <= v - (ph + n) / (sc + 1) /\ v - (ph + n) / (sc + 1) < 4294967296 := by omega
 clear hl
 have hX := X.lt
 have hY := Y.lt
 have x0 := X.c0
 have x1 := X.c1
 have x2 := X.c2
 have x3 := X.c3
 have f1 := X.free 1
 have hg := bP
 have hf := bF
 have HX := Hd X
 have HY := Hd Y
 clear X Y
 refine aE 11 (by kernel_rfl) (by kernel_rfl) ?_
 simp only [List.take_succ_cons, List.take_zero, List.drop_succ_cons, List.drop_zero]
 repeat (first
  | go_big_quiet_skip
  | (go_big_quiet_want; first
      | (refine xT (.tmp 2) rfl rfl (cH HX.out) ?_; go_simp; go_big_quiet_on)
      | (go_big_quiet_op; first
          | go_big_quiet_on
          | go_big_quiet_call (first
             | (go_at_call 235; exact Calls.regrown_of (hp.out _ _ _))
             | (go_at_call 55; exact Calls.regrown_of ((hLo.out _).mono fun e w' h => ⟨h.1, h.2 ▸ aT _⟩))))))
 refine wpQuiet_nil ?_
 intro _ hw'
 obtain ⟨⟨dq, osq⟩, hw''⟩ := hw'
 subst hw''
 obtain ⟨V, hV⟩ : ∃ V, v - (ph + n) / (sc + 1) = V := ⟨_, rfl⟩
 obtain ⟨R, hR⟩ : ∃ R, (ph + n) % (sc + 1) = R := ⟨_, rfl⟩
 rw [hV]
 go_upto_region 3 with (fail)
 have hbr := below_regrown W dq osq
 have X := (HX.out.below hbr).s1 V
 have Y := (HY.out.below hbr).other w.heap.size 1 (.int .u32 V) (by omega)
 have hB := (tr hB hbr).setCell (p := ⟨w.heap.size, 1, none⟩) (by simp) (.int .u32 V)
 clear HX HY x0 x1 x2 x3 x4 f1 hg hf hbr hX hY hLo
 generalize ((grow (redrawn W dq) osq).setCell ⟨w.heap.size, 1, none⟩ (.int .u32 V)) = W2 at *
 have HV := Hd hV
 have HR := Hd hR
 clear q0 q1 hk hV
 go_wp2_with (refine eV rfl (.tmp 2) rfl rfl X ?_)
 refine (hp.out _ _ _).mono ?_
 rintro e W3 ⟨rfl, hb⟩
 have X1 := X.below hb
 have Y1 := Y.below hb
 have hB1 := tr hB hb
 clear X Y hB hb
 have f4 := X1.free 4
 have x4 := X1.c4
 go_upto_region 4 with (fail)
 rw [hR]
 clear hR hr
 have X2 := X1.s4 R
 have Y2 := Y1.other w.heap.size 4 (.int .u64 R) (by omega)
 have hB2 := hB1.setCell (p := ⟨w.heap.size, 4, none⟩) (by simp) (.int .u64 R)
 clear X1 Y1 hB1 f4 x4
 generalize W3.setCell ⟨w.heap.size, 4, none⟩ (.int .u64 R) = W4 at *
 have Y3 := A5.row Y2 ld V c s R
 have hB3 := aM hB2 (w5 ld V c s R).toArray (g := w.heap.size + 1) (by omega)
 go_wp2_with (first | (refine eV rfl (.tmp 2) rfl rfl X2 ?_) | (refine iJ rfl (.tmp 4) (.tmp 26) rfl rfl rfl Y2 ?_))
 refine bodyPost_ret (aBw rfl _ _ rfl Y3) rfl ⟨by rw [<- HV.out, <- HR.out], hB3⟩
theorem aDp (t : Tm) (n : Int) (w : World) (h : t.ok) (n0 : 0 <= n) (hn : n < t.left) : Calls prog 285 #[.agg (wl t).toArray, .int .u64 n] w fun e w' => e = .returned (.agg (wl (t.lat n)).toArray) /\ Below w.heap.size w w' := by
 have hs := gS h.v0 h.s0 h.p0 n0 hn
 have hl := h.left
 exact aAC t.ld t.v (eR t.en t.re t.iq t.sc) (tk t.st) t.ph t.sc n w h.v1 h.c.1 h.c.2 (lT _ _ _ _ h.s0 h.s1) h.s0 h.s1 h.p0 h.p1 n0 (by omega) hs.1 hs.2.2
theorem xB (ld v c s ph : Int) (w : World) (c0 : 0 <= c) (c1 : c < 4294967296) (r : Bool) (hr : bX c 0 = r) :
 Calls prog 224 #[.agg (w5 ld v c s ph).toArray, .int .i64 0] w fun e w' => e = .returned (.bool r) /\ Below w.heap.size w w' := by
 have := mC ld v c s ph 0 0 w c0 c1 rfl (by omega)
 rw [hr] at this
 exact this
theorem gX {P : Prop} (h : P := by
 refine bodyPost_ret (aBw rfl _ _ rfl Y3) rfl ⟨rfl, hB3⟩
 ) : P := h
theorem tT (ld v c s ph x c' a b : Int) (ran b0 : Bool) (w : World) (c0 : 0 <= c) (c1 : c < 4294967296) (x0 : 0 <= x) (x1 : x < 4294967296) (hr : bX c 0 = ran) (d0 : 0 <= c') (d1 : c' < 4294967296) (hb : bX c' 0 = b0)
 (ha : field x 0 3 = a) (hb8 : field x 8 8 = b) (hp : put a 8 8 b = c') :
 Calls prog 283 #[.agg (w5 ld v c s ph).toArray, .int .u32 x] w fun e w' => e = .returned (.agg (w5 ld (if (!ran && b0) = true then ld else v) c' s 0).toArray) /\ Below w.heap.size w w' := by
 obtain ⟨a0, a1⟩ : 0 <= a /\ a < 4294967296 := by rw [<- ha]; exact gM _ _ _ x0 x1
 obtain ⟨e0, e1⟩ : 0 <= b /\ b < 4294967296 := by rw [<- hb8]; exact gM _ _ _ x0 x1
 have hF1 := Hd (fun w => xB ld v c s ph w c0 c1 ran hr)
 have hF2 := Hd (fun w => xB ld v c' s 0 w d0 d1 b0 hb)
 have hA := Hd (fun w => by have := Field x 0 3 w x0 x1 (by omega) (by omega); rw [ha] at this; exact this)
 have hE := Hd (fun w => by have := Field x 8 8 w x0 x1 (by omega) (by omega); rw [hb8] at this; exact this)
 have hP := Hd (fun w => by have := zI a 8 8 b w a0 a1 (by omega) (by omega) e0 e1; rw [hp] at this; exact this)
 clear hr hb ha hb8 hp
 have hB := aO (aO (aT w) (.cells (w5 ld v c s ph).toArray 298 (0, 0))) (.cells (w5 0 0 0 0 0).toArray 298 (0, 0))
 have X : A5 _ _ _ ld v c s ph := hJ w (.cells (w5 ld v c s ph).toArray 298 (0, 0)) (.cells (w5 0 0 0 0 0).toArray 298 (0, 0))
 have Y : A5 _ _ _ 0 0 0 0 0 := fU w (.cells (w5 ld v c s ph).toArray 298 (0, 0)) (.cells (w5 0 0 0 0 0).toArray 298 (0, 0))
 go_enter func283, ntmps283
 go_upto_region 1 with (fail)
 rw [pT]
 generalize ((w.alloc (.cells (w5 ld v c s ph).toArray 298 (0, 0))).alloc (.cells (w5 0 0 0 0 0).toArray 298 (0, 0))) = W at *
 go_wp2_with (refine eV rfl (.tmp 2) rfl rfl X ?_)
 refine (hF1.out _).mono ?_
 rintro e W1 ⟨rfl, hb⟩
 have X1 := X.below hb
 have Y1 := Y.below hb
 have hB1 := tr hB hb
 clear X Y hB hb hF1
 go_wp2_with fail
 refine (hA.out _).mono ?_
 rintro e W2 ⟨rfl, k1, rfl⟩
 go_wp2_with fail
 refine (hE.out _).mono ?_
 rintro e W3 ⟨rfl, k2, rfl⟩
 have hd := nS (nS (aT W1) k1) k2
 have X := X1.below hd
 have Y := Y1.below hd
 have hB := tr hB1 hd
 clear X1 Y1 hB1 hd hA hE
 generalize ((W1.drewN k1).drewN k2) = W3 at *
 have z2 := X.c2
 have z4 := X.c4
 have f2 := X.free 2
 have f4 := X.free 4
 go_upto_region 6 with (first | (go_at_call 112; refine (hP.out _).mono ?_; rintro e w2 ⟨rfl, rfl⟩))
 have X2 := (X.s2 c').s4 0
 have Y2 := (Y.other w.heap.size 2 (.int .u32 c') (by omega)).other w.heap.size 4 (.int .u64 0) (by omega)
 have hB2 := (hB.setCell (p := ⟨w.heap.size, 2, none⟩) (by simp) (.int .u32 c')).setCell (p := ⟨w.heap.size, 4, none⟩) (by simp) (.int .u64 0)
 clear X Y hB z2 z4 f2 f4 hP
 generalize ((W3.setCell ⟨w.heap.size, 2, none⟩ (.int .u32 c')).setCell ⟨w.heap.size, 4, none⟩ (.int .u64 0)) = W4 at *
 cases ran
 . go_wp2_with (refine wX (.tmp 2) rfl rfl rfl X2 ?_)
   refine (hF2.out _).mono ?_
   rintro e W5 ⟨rfl, hb⟩
   have X := X2.below hb
   have Y := Y2.below hb
   have hB := tr hB2 hb
   clear X2 Y2 hB2 hb hF2
   cases b0
   . have Y3 := A5.row Y ld v c' s 0
     have hB3 := aM hB (w5 ld v c' s 0).toArray (g := w.heap.size + 1) (by omega)
     go_wp2_with (first | (refine eV rfl (.tmp 2) rfl rfl X ?_) | (refine iJ rfl (.tmp 4) (.tmp 31) rfl rfl rfl Y ?_))
     exact gX
   . have z0 := X.c0
     have z1 := X.c1
     have f1 := X.free 1
     go_upto_region 8 with (fail)
     have X2 := X.s1 ld
     have Y2 := Y.other w.heap.size 1 (.int .u32 ld) (by omega)
     have hB2 := hB.setCell (p := ⟨w.heap.size, 1, none⟩) (by simp) (.int .u32 ld)
     clear X Y hB z0 z1 f1
     generalize (W5.setCell ⟨w.heap.size, 1, none⟩ (.int .u32 ld)) = W6 at *
     have Y3 := A5.row Y2 ld ld c' s 0
     have hB3 := aM hB2 (w5 ld ld c' s 0).toArray (g := w.heap.size + 1) (by omega)
     go_wp2_with (first | (refine eV rfl (.tmp 2) rfl rfl X2 ?_) | (refine iJ rfl (.tmp 4) (.tmp 31) rfl rfl rfl Y2 ?_))
     exact gX
 . have Y3 := A5.row Y2 ld v c' s 0
   have hB3 := aM hB2 (w5 ld v c' s 0).toArray (g := w.heap.size + 1) (by omega)
   go_wp2_with (first | (refine eV rfl (.tmp 2) rfl rfl X2 ?_) | (refine iJ rfl (.tmp 4) (.tmp 31) rfl rfl rfl Y2 ?_))
   exact gX
def Tm.ord (t : Tm) (x : Int) : Tm := { t with v := if (!t.en && bX x 0) = true then t.ld else t.v, en := bX x 0, re := bX x 1, iq := bX x 2, sc := x / 256 % 256, ph := 0 }
theorem Tm.ord_ok {t : Tm} (h : t.ok) (x : Int) : (t.ord x).ok := by
 have hv : 0 <= (t.ord x).v /\ (t.ord x).v < 4294967296 := by
  show 0 <= (if (!t.en && bX x 0) = true then t.ld else t.v) /\ (if (!t.en && bX x 0) = true then t.ld else t.v) < 4294967296
  have := h.l0; have := h.l1; have := h.v0; have := h.v1
  split <;> omega
 exact ⟨h.l0, h.l1, hv.1, hv.2, by show 0 <= x / 256 % 256; omega, by show x / 256 % 256 < 256; omega, Int.le_refl 0, by show 0 <= x / 256 % 256; omega⟩
theorem aDr (t : Tm) (x : Int) (w : World) (h : t.ok) (x0 : 0 <= x) (x1 : x < 4294967296) : Calls prog 283 #[.agg (wl t).toArray, .int .u32 x] w fun e w' => e = .returned (.agg (wl (t.ord x)).toArray) /\ Below w.heap.size w w' := by
 have hc := (Tm.ord_ok h x).c
 exact tT t.ld t.v (eR t.en t.re t.iq t.sc) (tk t.st) t.ph x (eR (bX x 0) (bX x 1) (bX x 2) (x / 256 % 256)) _ _ t.en (bX x 0) w h.c.1 h.c.2 x0 x1 (eS _ _ _ _) hc.1 hc.2 (eS _ _ _ _) rfl rfl (zQ x x0 x1)
def vS (xs ys : List Int) : Bool := xs == ys
theorem gJ {P : Program} (d : Nat) (e : TypeId) (k : IntKind) (he : P.underlying e = some (.int k)) (xs ys : List Int) (w : World) : ∀ is : List Nat, (∀ i ∈ is, i < xs.length /\ i < ys.length) ->
 (Op.eqItems (d + 1) e 1 (xs.map (Value.int k)).toArray (ys.map (Value.int k)).toArray is).run P w = .ok (is.all fun i => xs.getD i 0 == ys.getD i 0) w := by
 intro is
 induction is with
 | nil => intro _; simp [Op.eqItems]
 | cons i is ih =>
   intro h
   obtain ⟨hx, hy⟩ := h i (by simp)
   have px : (part e (xs.map (Value.int k)).toArray (i * 1)).run P w = .ok (.int k (xs.getD i 0)) w := by
    simp [part, isAgg, run_underlying he, List.getD, List.getElem?_eq_getElem hx]
   have py : (part e (ys.map (Value.int k)).toArray (i * 1)).run P w = .ok (.int k (ys.getD i 0)) w := by
    simp [part, isAgg, run_underlying he, List.getD, List.getElem?_eq_getElem hy]
   simp only [Op.eqItems, Sem.run_bind, px, py, run_equalIn_int w d e k k _ _ he, Result.andThen_ok, List.all_cons]
   cases hb : (xs.getD i 0 == ys.getD i 0)
   . simp
   . simp only [Bool.not_true, Bool.false_eq_true, if_false, Bool.true_and]
     exact ih fun j hj => h j (by simp [hj])
theorem lQ (xs ys : List Int) (h : xs.length = ys.length) : ((List.range xs.length).all fun i => xs.getD i 0 == ys.getD i 0) = vS xs ys := by
 unfold vS
 rw [Bool.eq_iff_iff, List.all_eq_true, beq_iff_eq]
 constructor
 . intro hh
   apply List.ext_getElem h
   intro i h1 h2
   have := hh i (by simp [h1])
   simpa [List.getD, List.getElem?_eq_getElem h1, List.getElem?_eq_getElem h2] using this
 . rintro rfl i _; simp
theorem eqW (a b c d e a' b' c' d' e' : Int) (w : World) :
 (Op.equalIn 10000 298 (.agg (w5 a b c d e).toArray) (.agg (w5 a' b' c' d' e').toArray)).run prog w = .ok (vS [a, b, c, d] [a', b', c', d'] && (e == e')) w := by
 have hi : (prog.info? 26).isSome = true := by kernel_rfl
 obtain ⟨i, hi⟩ := Option.isSome_iff_exists.1 hi
 have hc : prog.cellsOf 26 = 1 := by kernel_rfl
 have h := run_equalIn_array w 9998 (i := i) #[.int .u32 a, .int .u32 b, .int .u32 c, .int .u32 d] #[.int .u32 a', .int .u32 b', .int .u32 c', .int .u32 d'] underlying253 hi
 rw [hc] at h
 have g := gJ 9997 26 .u32 underlying26 [a, b, c, d] [a', b', c', d'] w (List.range 4) (by intro i hi; simpa using hi)
 have r := lQ [a, b, c, d] [a', b', c', d'] rfl
 have key := (h.trans g).trans (congrArg (fun b => Result.ok b w) r)
 rw [run_equalIn_struct w 9999 298 _ _ (by kernel_rfl) (by kernel_rfl)]
 simp only [Program.fieldsOf, underlying298]
 simp only [Op.eqFields]
 have pa : ∀ a b c d e : Int, (part 253 (w5 a b c d e).toArray 0).run prog w = .ok (.agg #[.int .u32 a, .int .u32 b, .int .u32 c, .int .u32 d]) w := fun a b c d e => by
  have hs : (sizeOf 253).run prog w = .ok 4 w := by kernel_rfl
  have ha : (isAgg 253).run prog w = .ok true w := by kernel_rfl
  simp [part, ha, hs, Sem.run_bind, w5]
 have pb : ∀ a b c d e : Int, (part 24 (w5 a b c d e).toArray 4).run prog w = .ok (.int .u64 e) w := fun a b c d e => by
  have ha : (isAgg 24).run prog w = .ok false w := by kernel_rfl
  simp [part, ha, Sem.run_bind, w5]
 rw [if_pos (by decide), if_pos (by decide)]
 simp only [Sem.run_bind, pa, pb, Result.andThen_ok, key, run_equalIn_int w 9998 24 .u64 .u64 e e' underlying24]
 cases vS [a, b, c, d] [a', b', c', d']
 . simp
 . have hq := run_equalIn_int w 9998 24 .u64 .u64 e e' underlying24
   rw [show 9998 + 1 = 9999 from rfl] at hq
   cases hx : e == e'
   . rw [hx] at hq; simp [pb, hq]
   . rw [hx] at hq; simp [pb, hq]
def eqT (s t : Tm) : Bool := vS [s.ld, s.v, eR s.en s.re s.iq s.sc, tk s.st] [t.ld, t.v, eR t.en t.re t.iq t.sc, tk t.st] && (s.ph == t.ph)
theorem aDh (s t : Tm) (w : World) : (Op.equalIn 10000 298 (.agg (wl s).toArray) (.agg (wl t).toArray)).run prog w = .ok (eqT s t) w := eqW _ _ _ _ _ _ _ _ _ _ w
theorem aDA {C : World -> Prop} {o : Oper} {a : Act} {K : Act -> Prop} (x y : Operand) (u : TypeId) (ho : o.op = .binOp .eql 298 x y u) {s t : Tm} (hx : a.eval x = .agg (wl s).toArray) (hy : a.eval y = .agg (wl t).toArray)
 (h : K (a.put o.dst (.bool (eqT s t)))) : o.quiet prog a C K :=
 ⟨_, fun w hw => by
  have hg : (eqGuard .eql 298 x y (.agg (wl s).toArray) (.agg (wl t).toArray)).run prog w = .ok () w := by
   have e : prog.eqGuardType prog.depth 298 = false := by kernel_rfl
   simp [eqGuard, Sem.run_bind, run_program, e]
  have hb : (binOp .eql 298 (.agg (wl s).toArray) (.agg (wl t).toArray)).run prog w = .ok (.bool (eqT s t)) w := by
   have e := aDh s t w
   simp only [binOp, Op.equal, Sem.run_bind, Op.maxDepth]
   rw [e]
   rfl
  unfold Oper.quietAt execOp
  simp only [ho, hx, hy, Sem.run_bind, hg, hb, Result.andThen_ok]
  exact ⟨rfl, rfl⟩, h⟩
theorem zT {t : Tm} (he : t.en = true) (h : eqT t.exp t = true) : t.exp = t := by
 unfold eqT vS at h
 simp only [Bool.and_eq_true, beq_iff_eq, List.cons.injEq, and_true] at h
 obtain ⟨⟨h1, h2, h3, h4⟩, h5⟩ := h
 have hen : t.exp.en = t.en := (zO h3).1
 have hst := aB8 h4
 unfold Tm.exp at h2 hen hst h5 ⊢
 by_cases c : (t.re && t.ld != 0) = true
 . rw [if_pos c] at h2 hst h5 ⊢
   show Tm.mk t.ld t.ld t.en t.re t.iq t.sc 0 true = t
   obtain ⟨ld, v, en, re, iq, sc, ph, st⟩ := t
   simp only at h2 hst h5
   subst h2 hst h5
   rfl
 . rw [if_neg c] at hen
   rw [he] at hen
   cases hen
def dT (w : World) (b : Nat) (T : TypeId) (t : Tm) : Prop := w.heap[b]? = some (.cells (wl t).toArray T (0, 0))
abbrev tC : TypeId := 300
section
variable {w w' : World} {b : Nat} {T : TypeId} {t : Tm}
theorem dT.a5 (h : dT w b T t) : A5 w b T t.ld t.v (eR t.en t.re t.iq t.sc) (tk t.st) t.ph := h
theorem dT.lt (h : dT w b T t) : b < w.heap.size := lt_of_block h
theorem dT.below (h : dT w b T t) (hb : Below w.heap.size w w') : dT w' b T t := aB hb h h.lt
theorem dT.off {S : Nat -> Prop} (h : dT w b T t) (ho : aD S w w') (hs : ¬ S b) : dT w' b T t := ho.at h hs
theorem dT.other (h : dT w b T t) (k j : Nat) (x : Value) (hne : b ≠ k) : dT (w.setCell ⟨k, j, none⟩ x) b T t := aN h k j x hne
theorem dT.row {old : Array Value} (h : w.heap[b]? = some (.cells old T (0, 0))) (t : Tm) : dT (w.setRow b (wl t).toArray) b T t := dJ _ h
theorem dT.elseRow (h : dT w b T t) (g : Nat) (cs : Array Value) (hne : b ≠ g) : dT (w.setRow g cs) b T t := dR g cs h hne
end
theorem iV (w : World) (p : Nat) (cs : Array Value) : aD (· = p) w (w.setRow p cs) := ⟨rfl, rfl, rfl, by simp, fun k _ hs => setRow_other w p k cs hs⟩
section
variable {ops : Array Oper} {rest : List Oper} {o : Oper} {a : Act} {w : World} {Q : Exit -> Act -> World -> Prop}
theorem mA (hgd : o.guard = none) (x : Operand) (ho : o.op = .load 298 x) {b : Nat} {T : TypeId} (hx : a.eval x = .pointer (some ⟨b, 0, none⟩)) {t : Tm} (hg : dT w b T t)
 (h : wpList prog ops Q rest (a.put o.dst (.agg (wl t).toArray)) w) : wpList prog ops Q (o :: rest) a w := eV hgd x ho hx hg.a5 h
theorem qU (x : Operand) (ho : o.op = .load 298 x) (hw : Region.wanted o (yielded ops a.tmps) = true) {b : Nat} {T : TypeId} (hx : a.eval x = .pointer (some ⟨b, 0, none⟩)) {t : Tm} (hg : dT w b T t)
 (h : wpList prog ops Q rest (a.put o.dst (.agg (wl t).toArray)) w) : wpList prog ops Q (o :: rest) a w := wX x ho hw hx hg.a5 h
theorem kE (hgd : o.guard = none) (x y : Operand) (ho : o.op = .store 298 x y) {b : Nat} {T : TypeId} (hx : a.eval x = .pointer (some ⟨b, 0, none⟩)) {t : Tm} (hy : a.eval y = .agg (wl t).toArray) {t' : Tm}
 (hg : dT w b T t') (h : wpList prog ops Q rest (a.put o.dst undef) (w.setRow b (wl t).toArray)) : wpList prog ops Q (o :: rest) a w := iJ hgd x y ho hx hy hg.a5 h
theorem nN {C : World -> Prop} {K : Act -> Prop} (x : Operand) (ho : o.op = .load 298 x) {b : Nat} {T : TypeId} (hx : a.eval x = .pointer (some ⟨b, 0, none⟩)) {t : Tm} (hg : ∀ w, C w -> dT w b T t)
 (h : K (a.put o.dst (.agg (wl t).toArray))) : o.quiet prog a C K := xT x ho hx (fun w hw => (hg w hw).a5) h
end
theorem dT.grown {w : World} {b : Nat} {T : TypeId} {t : Tm} (h : dT w b T t) : ∀ w', (∃ p : Regrown, w' = grow (redrawn w p.d) p.os) -> dT w' b T t := cH h
def tz : Tm := ⟨0, 0, false, false, false, 0, 0, false⟩
theorem sK : tz.ok := ⟨by decide, by decide, by decide, by decide, by decide, by decide, by decide, by decide⟩
theorem aDq (w : World) : Calls prog 179 #[] w fun e w' => e = .returned (.pointer (some ⟨w.heap.size, 0, none⟩)) /\ w' = w.alloc (.cells (wl tz).toArray tC (0, 0)) := by
 go_enter func179, ntmps179
 exact aI
theorem aC1 (t : Tm) (p : Nat) (w : World) (h : t.ok) (a : dT w p tC t) :
 Calls prog 203 #[.pointer (some ⟨p, 0, none⟩)] w fun e w' => e = .returned (.bool t.en) /\ Below w.heap.size w w' := by
 go_enter func203, ntmps203
 go_wp2_with (refine qU (.tmp 8) rfl rfl rfl a ?_)
 refine (aBf t w h).mono ?_
 rintro e w1 ⟨rfl, hb⟩
 cases he : t.en
 all_goals
  go_wp2_with fail
  go_ret
  exact ⟨bM he.symm, hb⟩
theorem aCz (t : Tm) (p : Nat) (w : World) (h : t.ok) (a : dT w p tC t) :
 Calls prog 190 #[.pointer (some ⟨p, 0, none⟩)] w fun e w' => e = .returned (.bool (t.st && t.iq)) /\ Below w.heap.size w w' := by
 have x3 := a.a5.c3
 cases hs : t.st
 . rw [hs] at x3
   simp only [tk, cond_false] at x3
   go_enter func190, ntmps190
   go_wp2_with fail
   go_ret
   exact ⟨rfl, aT w⟩
 . rw [hs] at x3
   simp only [tk, cond_true] at x3
   go_enter func190, ntmps190
   go_wp2_with (refine qU (.tmp 17) rfl rfl rfl a ?_)
   refine (aBg t w h).mono ?_
   rintro e w1 ⟨rfl, hb⟩
   cases he : t.iq
   all_goals
    go_wp2_with fail
    go_ret
    exact ⟨bM (by rw [he]; rfl), hb⟩
def Tm.lef (t : Tm) : Int := if t.en = true then t.left else 18446744073709551615
def dY (o : Int) : Int := if (o % 4 != 0) = true then 11 else if 16 <= o then 10 else 0
theorem mB {o : Int} (o0 : 0 <= o) (h : dY o = 0) : o = 0 \/ o = 4 \/ o = 8 \/ o = 12 := by
 unfold dY at h
 cases h4 : (o % 4 != 0)
 . rw [h4] at h; simp at h h4; omega
 . rw [h4] at h; simp at h
theorem gB (x : Option Addr) (o : Int) (w : World) (o0 : 0 <= o) (o1 : o < 4294967296) (e : Int) (he : (if x = none then 10 else dY o) = e) :
 Calls prog 228 #[.pointer x, .int .u32 o] w fun e' w' => e' = .returned (.int .i64 e) /\ w = w' := by
 cases x with
 | none =>
   rw [if_pos rfl] at he; subst he
   go_enter func228, ntmps228
   go_wp2_with fail
   go_ret
   exact ⟨rfl, rfl⟩
 | some x =>
   rw [if_neg (by simp)] at he
   unfold dY at he
   cases h4 : (o % 4 != 0)
   . rw [h4, if_neg (by simp)] at he
     by_cases h8 : 16 <= o
     all_goals
      first
      | (rw [if_pos h8] at he; subst he)
      | (rw [if_neg h8] at he; subst he)
      go_enter func228, ntmps228
      go_wp2_with fail
      go_ret
      exact ⟨rfl, rfl⟩
   . rw [h4, if_pos rfl] at he; subst he
     go_enter func228, ntmps228
     go_wp2_with fail
     go_ret
     exact ⟨rfl, rfl⟩
def Tm.val (t : Tm) (o : Int) : Int := if dY o = 0 then (if o = 0 then t.ld else if o = 4 then t.v else if o = 8 then eR t.en t.re t.iq t.sc else tk t.st) else 0
theorem dZ {P : Prop} (h : P := by
 go_wp2_with fail
 go_ret2
 exact ⟨rfl, rfl⟩
 ) : P := h
theorem aC0 (t : Tm) (o : Int) (p : Nat) (w : World) (h : t.ok) (a : dT w p tC t) (o0 : 0 <= o) (o1 : o < 4294967296) :
 Calls prog 205 #[.pointer (some ⟨p, 0, none⟩), .int .u32 o] w fun e w' => e = .returned (.tuple #[.int .u32 (t.val o), .int .i64 (dY o)]) /\ w = w' := by
 have x0 := a.a5.c0
 have x1 := a.a5.c1
 have x2 := a.a5.c2
 have x3 := a.a5.c3
 clear a
 by_cases he : dY o = 0
 . rcases mB o0 he with rfl | rfl | rfl | rfl
   all_goals
    go_enter func205, ntmps205
    go_wp2_with (first | (go_at_call 228; refine (gB _ _ _ (by omega) (by omega) 0 (by rfl)).mono ?_; rintro e w' ⟨rfl, rfl⟩))
    go_ret2
    exact ⟨rfl, rfl⟩
 . have hv : t.val o = 0 := by unfold Tm.val; rw [if_neg he]
   rw [hv]
   have hc : (if (some (⟨p, 0, none⟩ : Addr)) = none then 10 else dY o) = dY o := by rw [if_neg (by simp)]
   have hn : (dY o == 0) = false := by simpa using he
   have hn2 : (dY o != 0) = true := by simpa using he
   go_enter func205, ntmps205
   go_wp2_with fail
   refine (gB _ _ _ o0 o1 _ hc).mono ?_
   rintro e w' ⟨rfl, rfl⟩
   exact dZ
theorem aBh (t : Tm) (p : Nat) (w : World) (a : dT w p tC t) :
 Calls prog 280 #[.pointer (some ⟨p, 0, none⟩)] w fun e w' => e = .returned (.tuple #[]) /\ w' = w.setRow p (wl tz).toArray := by
 go_enter func280, ntmps280
 go_wp2_with (refine kE rfl (.tmp 7) (.tmp 5) rfl rfl (t := tz) rfl a ?_)
 go_end0
 exact ⟨rfl, rfl⟩
def Tm.sto (t : Tm) (o x : Int) : Tm := if o = 0 then { t with ld := x } else if o = 8 then t.ord x else if o = 12 then { t with st := t.st && !bX x 0 } else t
theorem Tm.sto_ok {t : Tm} (h : t.ok) (o x : Int) (x0 : 0 <= x) (x1 : x < 4294967296) : (t.sto o x).ok := by
 unfold Tm.sto
 split
 . exact ⟨x0, x1, h.v0, h.v1, h.s0, h.s1, h.p0, h.p1⟩
 . split
   . exact Tm.ord_ok h x
   . split
     . exact ⟨h.l0, h.l1, h.v0, h.v1, h.s0, h.s1, h.p0, h.p1⟩
     . exact h
def eM (o : Int) : Int := if dY o = 0 then (if o = 4 then 12 else 0) else dY o
theorem fB {P : Prop} (h : P := by
 rintro e w' ⟨rfl, rfl⟩
 go_wp2_with fail
 go_ret
 exact ⟨rfl, a, aD.refl _ _⟩
 ) : P := h
theorem aBi (t : Tm) (o x : Int) (p : Nat) (w : World) (h : t.ok) (a : dT w p tC t) (o0 : 0 <= o) (o1 : o < 4294967296) (x0 : 0 <= x) (x1 : x < 4294967296) :
 Calls prog 281 #[.pointer (some ⟨p, 0, none⟩), .int .u32 o, .int .u32 x] w fun e w' => e = .returned (.int .i64 (eM o)) /\ dT w' p tC (if eM o = 0 then t.sto o x else t) /\ aD (· = p) w w' := by
 by_cases he : dY o = 0
 . rcases mB o0 he with rfl | rfl | rfl | rfl
   . have z0 := a.a5.c0
     have f0 := a.a5.free 0
     go_enter func281, ntmps281
     go_wp2_with (first | (go_at_call 228; refine (gB _ _ _ (by omega) (by omega) 0 (by rfl)).mono ?_; rintro e w' ⟨rfl, rfl⟩))
     go_ret
     exact ⟨rfl, a.a5.s0 x, aG _ _ _ _⟩
   . go_enter func281, ntmps281
     go_wp2_with (first | (go_at_call 228; refine (gB _ _ _ (by omega) (by omega) 0 (by rfl)).mono ?_; rintro e w' ⟨rfl, rfl⟩))
     go_ret
     exact ⟨rfl, a, aD.refl _ _⟩
   . go_enter func281, ntmps281
     go_wp2_with (first | (go_at_call 228; refine (gB _ _ _ (by omega) (by omega) 0 (by rfl)).mono ?_; rintro e w' ⟨rfl, rfl⟩) | (refine mA rfl (.tmp 29) rfl rfl a ?_))
     refine (aDr t x w h x0 x1).mono ?_
     rintro e w1 ⟨rfl, hb⟩
     have a1 := a.below hb
     go_wp2_with (refine kE rfl (.tmp 34) (.tmp 32) rfl rfl rfl a1 ?_)
     go_ret
     exact ⟨rfl, dT.row a1 _, (aD.ofBelow hb).trans (iV _ _ _)⟩
   . have z3 := a.a5.c3
     have f3 := a.a5.free 3
     have hk := pJ t.st x x0 x1
     have hl := a.lt
     go_enter func281, ntmps281
     go_wp2_with (first | (go_at_call 228; refine (gB _ _ _ (by omega) (by omega) 0 (by rfl)).mono ?_; rintro e w' ⟨rfl, rfl⟩))
     have hg := bP
     have hf := bF
     refine aE 12 (by kernel_rfl) (by kernel_rfl) ?_
     simp only [List.take_succ_cons, List.take_zero, List.drop_succ_cons, List.drop_zero]
     repeat (go_big_quiet_step (fail))
     refine wpQuiet_nil ?_
     intro _ hw'
     obtain ⟨⟨dq, osq⟩, hw''⟩ := hw'
     subst hw''
     go_wp2_with fail
     go_ret
     have a1 := a.below (below_regrown w dq osq)
     refine ⟨rfl, ?_, (aD.ofBelow (below_regrown w dq osq)).trans (aG _ _ _ _)⟩
     have := a1.a5.s3 (tk (t.st && !bX x 0))
     first
     | (rw [hk]; exact this)
     | exact this
 . have hs : eM o = dY o := by unfold eM; rw [if_neg he]
   rw [hs, if_neg he]
   have hc : (if (some (⟨p, 0, none⟩ : Addr)) = none then 10 else dY o) = dY o := by rw [if_neg (by simp)]
   have hn : (dY o == 0) = false := by simpa using he
   have hn2 : (dY o != 0) = true := by simpa using he
   go_enter func281, ntmps281
   go_wp2_with fail
   refine (gB _ _ _ o0 o1 _ hc).mono ?_
   exact fB
def r8 (ld v : Int) (en re iq : Bool) (sc ph : Int) (st : Bool) : List Value := [.int .u32 ld, .int .u32 v, .bool en, .bool re, .bool iq, .int .u32 sc, .int .u32 ph, .bool st]
def rl (t : Tm) : List Value := r8 t.ld t.v t.en t.re t.iq t.sc t.ph t.st
abbrev tM : TypeId := 220
def cL (w : World) (b : Nat) (t : Tm) : Prop := w.heap[b]? = some (.cells (rl t).toArray tM (0, 0))
section
variable {w w' : World} {b : Nat} {t : Tm}
theorem cL.lt (h : cL w b t) : b < w.heap.size := lt_of_block h
theorem cL.below (h : cL w b t) (hb : Below w.heap.size w w') : cL w' b t := aB hb h h.lt
theorem cL.off {S : Nat -> Prop} (h : cL w b t) (ho : aD S w w') (hs : ¬ S b) : cL w' b t := ho.at h hs
theorem cL.free (h : cL w b t) (j : Nat) : w.frozen? ⟨b, j, none⟩ = false := aH h j
theorem cL.c0 (h : cL w b t) : w.cell? ⟨b, 0, none⟩ = some (.int .u32 t.ld) := by rw [aA h 0]; rfl
theorem cL.c1 (h : cL w b t) : w.cell? ⟨b, 1, none⟩ = some (.int .u32 t.v) := by rw [aA h 1]; rfl
theorem cL.c2 (h : cL w b t) : w.cell? ⟨b, 2, none⟩ = some (.bool t.en) := by rw [aA h 2]; rfl
theorem cL.c3 (h : cL w b t) : w.cell? ⟨b, 3, none⟩ = some (.bool t.re) := by rw [aA h 3]; rfl
theorem cL.c4 (h : cL w b t) : w.cell? ⟨b, 4, none⟩ = some (.bool t.iq) := by rw [aA h 4]; rfl
theorem cL.c5 (h : cL w b t) : w.cell? ⟨b, 5, none⟩ = some (.int .u32 t.sc) := by rw [aA h 5]; rfl
theorem cL.c6 (h : cL w b t) : w.cell? ⟨b, 6, none⟩ = some (.int .u32 t.ph) := by rw [aA h 6]; rfl
theorem cL.set (h : cL w b t) (j : Nat) (x : Value) {s : Tm} (he : (rl t).set j x = rl s) : cL (w.setCell ⟨b, j, none⟩ x) b s := by
 unfold cL; rw [aK h, <- he]; simp
theorem cL.s0 (h : cL w b t) (x : Int) : cL (w.setCell ⟨b, 0, none⟩ (.int .u32 x)) b { t with ld := x } := h.set _ _ rfl
theorem cL.s1 (h : cL w b t) (x : Int) : cL (w.setCell ⟨b, 1, none⟩ (.int .u32 x)) b { t with v := x } := h.set _ _ rfl
theorem cL.s2 (h : cL w b t) (x : Bool) : cL (w.setCell ⟨b, 2, none⟩ (.bool x)) b { t with en := x } := h.set _ _ rfl
theorem cL.s3 (h : cL w b t) (x : Bool) : cL (w.setCell ⟨b, 3, none⟩ (.bool x)) b { t with re := x } := h.set _ _ rfl
theorem cL.s4 (h : cL w b t) (x : Bool) : cL (w.setCell ⟨b, 4, none⟩ (.bool x)) b { t with iq := x } := h.set _ _ rfl
theorem cL.s5 (h : cL w b t) (x : Int) : cL (w.setCell ⟨b, 5, none⟩ (.int .u32 x)) b { t with sc := x } := h.set _ _ rfl
theorem cL.s6 (h : cL w b t) (x : Int) : cL (w.setCell ⟨b, 6, none⟩ (.int .u32 x)) b { t with ph := x } := h.set _ _ rfl
theorem cL.other (h : cL w b t) (k j : Nat) (x : Value) (hne : b ≠ k) : cL (w.setCell ⟨k, j, none⟩ x) b t := aN h k j x hne
theorem cL.row {old : Array Value} (h : w.heap[b]? = some (.cells old tM (0, 0))) (t : Tm) : cL (w.setRow b (rl t).toArray) b t := dJ _ h
theorem cL.elseRow (h : cL w b t) (g : Nat) (cs : Array Value) (hne : b ≠ g) : cL (w.setRow g cs) b t := dR g cs h hne
theorem cL.grown (h : cL w b t) : ∀ w', (∃ p : Regrown, w' = grow (redrawn w p.d) p.os) -> cL w' b t := cH h
end
section
variable {ops : Array Oper} {rest : List Oper} {o : Oper} {a : Act} {w : World} {Q : Exit -> Act -> World -> Prop}
end
end Go.Proofs.YtaohacadochldaaGreat.B
