/- Several texts in one: What the words' later returns. What the words' ordered returns. Arrays of integers compared. Words of timers compared. What .. -/
import Derived.Test.YtpojmmgokgamgaaGreatZVaa
import Derived.Test.YtpojmmgokgamgaaGreatZVad
import Derived.Laws.StructEq
import Derived.ChangeKeysEq
set_option linter.unusedVariables false
set_option linter.unusedSimpArgs false
namespace Go.Proofs.YtpojmmgokgamgaaGreat.B
open Go.ChangeShapes Go.WideShapes Go.RowKit Go.Sort
theorem nPeriod5 (ld v c s ph sc : Int) (w : World) (c0 : 0 <= c) (c1 : c < 4294967296) (hs : field c 8 8 = sc) (s0 : 0 <= sc) (s1 : sc < 256) :
 Calls Tryz.prog 232 #[.agg (w5 ld v c s ph).toArray] w fun e w' => e = .returned (.int .u64 (sc + 1)) /\ Below w.heap.size w w' :=
 nPeriod ld v c s ph sc w c0 c1 hs s0 s1
set_option maxHeartbeats 800000 in
theorem nLaterV (ld v c s ph sc n : Int) (w : World) (v1 : v < 4294967296) (c0 : 0 <= c) (c1 : c < 4294967296) (hs : field c 8 8 = sc) (s0 : 0 <= sc) (s1 : sc < 256) (p0 : 0 <= ph) (p1 : ph <= sc) (n0 : 0 <= n) (n1 : n < 1099511627776)
 (q0 : 0 <= (ph + n) / (sc + 1)) (q1 : (ph + n) / (sc + 1) <= v) :
 Calls Tryz.prog 272 #[.agg (w5 ld v c s ph).toArray, .int .u64 n] w fun e w' => e = .returned (.agg (w5 ld (v - (ph + n) / (sc + 1)) c s ((ph + n) % (sc + 1))).toArray) /\ Below w.heap.size w w' := by
 have hp := Hd (fun v ph w => nPeriod5 ld v c s ph sc w c0 c1 hs s0 s1)
 clear hs
 have hB := trA (trA (tr0 w) (.cells (w5 ld v c s ph).toArray 253 (0, 0))) (.cells (w5 0 0 0 0 0).toArray 253 (0, 0))
 have X : A5 _ _ _ ld v c s ph := b2_0 w (.cells (w5 ld v c s ph).toArray 253 (0, 0)) (.cells (w5 0 0 0 0 0).toArray 253 (0, 0))
 have Y : A5 _ _ _ 0 0 0 0 0 := b2_1 w (.cells (w5 ld v c s ph).toArray 253 (0, 0)) (.cells (w5 0 0 0 0 0).toArray 253 (0, 0))
 go_enter Tryz.func272, Tryz.ntmps272
 go_upto_region 1 with (fail)
 rw [zW_eq]
 generalize ((w.alloc (.cells (w5 ld v c s ph).toArray 253 (0, 0))).alloc (.cells (w5 0 0 0 0 0).toArray 253 (0, 0))) = W at *
 have x4 := X.c4
 go_upto_region 2 with (fail)
 have hr : 0 <= (ph + n) % (sc + 1) /\ (ph + n) % (sc + 1) < sc + 1 := mod_bounds (by omega)
 have hl : lo ((ph + n) / (sc + 1)) = (ph + n) / (sc + 1) := by unfold lo; omega
 have hLo := Hd (fun w => by have := Lo ((ph + n) / (sc + 1)) w q0 (by omega); rw [hl] at this; exact this)
 have hk : 0 <= v - (ph + n) / (sc + 1) /\ v - (ph + n) / (sc + 1) < 4294967296 := by omega
 clear hl
 have hX := X.lt
 have hY := Y.lt
 have x0 := X.c0
 have x1 := X.c1
 have x2 := X.c2
 have x3 := X.c3
 have f1 := X.free 1
 have hg := gcell
 have hf := gfrozen
 have HX := Hd X
 have HY := Hd Y
 clear X Y
 refine wp_region_tail_below 11 (by kernel_rfl) (by kernel_rfl) ?_
 simp only [List.take_succ_cons, List.take_zero, List.drop_succ_cons, List.drop_zero]
 repeat (first
  | go_big_quiet_skip
  | (go_big_quiet_want; first
      | (refine qloadW (.tmp 2) rfl rfl (grown_block HX.out) ?_; go_simp; go_big_quiet_on)
      | (go_big_quiet_op; first
          | go_big_quiet_on
          | go_big_quiet_call (first
             | (go_at_call 232; exact Calls.regrown_of (hp.out _ _ _))
             | (go_at_call 180; exact Calls.regrown_of ((hLo.out _).mono fun e w' h => ⟨h.1, h.2 ▸ tr0 _⟩))))))
 refine wpQuiet_nil ?_
 intro _ hw'
 obtain ⟨⟨dq, osq⟩, hw''⟩ := hw'
 subst hw''
 obtain ⟨V, hV⟩ : ∃ V, v - (ph + n) / (sc + 1) = V := ⟨_, rfl⟩
 obtain ⟨R, hR⟩ : ∃ R, (ph + n) % (sc + 1) = R := ⟨_, rfl⟩
 rw [hV]
 go_upto_region 3 with (fail)
 have hbr := below_regrown W dq osq
 have X := (HX.out.below hbr).s1 V
 have Y := (HY.out.below hbr).other w.heap.size 1 (.int .u32 V) (by omega)
 have hB := (tr hB hbr).setCell (p := ⟨w.heap.size, 1, none⟩) (by simp) (.int .u32 V)
 clear HX HY x0 x1 x2 x3 x4 f1 hg hf hbr hX hY hLo
 generalize ((grow (redrawn W dq) osq).setCell ⟨w.heap.size, 1, none⟩ (.int .u32 V)) = W2 at *
 have HV := Hd hV
 have HR := Hd hR
 clear q0 q1 hk hV
 go_wp2_with (refine loadW rfl (.tmp 2) rfl rfl X ?_)
 refine (hp.out _ _ _).mono ?_
 rintro e W3 ⟨rfl, hb⟩
 have X1 := X.below hb
 have Y1 := Y.below hb
 have hB1 := tr hB hb
 clear X Y hB hb
 have f4 := X1.free 4
 have x4 := X1.c4
 go_upto_region 4 with (fail)
 rw [hR]
 clear hR hr
 have X2 := X1.s4 R
 have Y2 := Y1.other w.heap.size 4 (.int .u64 R) (by omega)
 have hB2 := hB1.setCell (p := ⟨w.heap.size, 4, none⟩) (by simp) (.int .u64 R)
 clear X1 Y1 hB1 f4 x4
 generalize W3.setCell ⟨w.heap.size, 4, none⟩ (.int .u64 R) = W4 at *
 have Y3 := A5.row Y2 ld V c s R
 have hB3 := below_setRow hB2 (w5 ld V c s R).toArray (g := w.heap.size + 1) (by omega)
 go_wp2_with (first | (refine loadW rfl (.tmp 2) rfl rfl X2 ?_) | (refine storeW rfl (.tmp 4) (.tmp 26) rfl rfl rfl Y2 ?_))
 refine bodyPost_ret (resW rfl _ _ rfl Y3) rfl ⟨by rw [<- HV.out, <- HR.out], hB3⟩
theorem nLat (t : Tm) (n : Int) (w : World) (h : t.ok) (n0 : 0 <= n) (hn : n < t.left) : Calls Tryz.prog 272 #[.agg (wl t).toArray, .int .u64 n] w fun e w' => e = .returned (.agg (wl (t.lat n)).toArray) /\ Below w.heap.size w w' := by
 have hs := steps_bounds h.v0 h.s0 h.p0 n0 hn
 have hl := h.left
 exact nLaterV t.ld t.v (ctl t.en t.re t.iq t.sc) (tk t.st) t.ph t.sc n w h.v1 h.c.1 h.c.2 (ctl_field _ _ _ _ h.s0 h.s1) h.s0 h.s1 h.p0 h.p1 n0 (by omega) hs.1 hs.2.2
theorem nFlag5 (ld v c s ph : Int) (w : World) (c0 : 0 <= c) (c1 : c < 4294967296) (r : Bool) (hr : bit c 0 = r) :
 Calls Tryz.prog 214 #[.agg (w5 ld v c s ph).toArray, .int .i64 0] w fun e w' => e = .returned (.bool r) /\ Below w.heap.size w w' := by
 have := nFlag ld v c s ph 0 0 w c0 c1 rfl (by omega)
 rw [hr] at this
 exact this
set_option maxHeartbeats 800000 in
theorem nOrderedV (ld v c s ph x c' a b : Int) (ran b0 : Bool) (w : World) (c0 : 0 <= c) (c1 : c < 4294967296) (x0 : 0 <= x) (x1 : x < 4294967296) (hr : bit c 0 = ran) (d0 : 0 <= c') (d1 : c' < 4294967296) (hb : bit c' 0 = b0)
 (ha : field x 0 3 = a) (hb8 : field x 8 8 = b) (hp : put a 8 8 b = c') :
 Calls Tryz.prog 270 #[.agg (w5 ld v c s ph).toArray, .int .u32 x] w fun e w' => e = .returned (.agg (w5 ld (if (!ran && b0) = true then ld else v) c' s 0).toArray) /\ Below w.heap.size w w' := by
 obtain ⟨a0, a1⟩ : 0 <= a /\ a < 4294967296 := by rw [<- ha]; exact field_bounds _ _ _ x0 x1
 obtain ⟨e0, e1⟩ : 0 <= b /\ b < 4294967296 := by rw [<- hb8]; exact field_bounds _ _ _ x0 x1
 have hF1 := Hd (fun w => nFlag5 ld v c s ph w c0 c1 ran hr)
 have hF2 := Hd (fun w => nFlag5 ld v c' s 0 w d0 d1 b0 hb)
 have hA := Hd (fun w => by have := Field x 0 3 w x0 x1 (by omega) (by omega); rw [ha] at this; exact this)
 have hE := Hd (fun w => by have := Field x 8 8 w x0 x1 (by omega) (by omega); rw [hb8] at this; exact this)
 have hP := Hd (fun w => by have := Put a 8 8 b w a0 a1 (by omega) (by omega) e0 e1; rw [hp] at this; exact this)
 clear hr hb ha hb8 hp
 have hB := trA (trA (tr0 w) (.cells (w5 ld v c s ph).toArray 253 (0, 0))) (.cells (w5 0 0 0 0 0).toArray 253 (0, 0))
 have X : A5 _ _ _ ld v c s ph := b2_0 w (.cells (w5 ld v c s ph).toArray 253 (0, 0)) (.cells (w5 0 0 0 0 0).toArray 253 (0, 0))
 have Y : A5 _ _ _ 0 0 0 0 0 := b2_1 w (.cells (w5 ld v c s ph).toArray 253 (0, 0)) (.cells (w5 0 0 0 0 0).toArray 253 (0, 0))
 go_enter Tryz.func270, Tryz.ntmps270
 go_upto_region 1 with (fail)
 rw [zW_eq]
 generalize ((w.alloc (.cells (w5 ld v c s ph).toArray 253 (0, 0))).alloc (.cells (w5 0 0 0 0 0).toArray 253 (0, 0))) = W at *
 go_wp2_with (refine loadW rfl (.tmp 2) rfl rfl X ?_)
 refine (hF1.out _).mono ?_
 rintro e W1 ⟨rfl, hb⟩
 have X1 := X.below hb
 have Y1 := Y.below hb
 have hB1 := tr hB hb
 clear X Y hB hb hF1
 go_wp2_with fail
 refine (hA.out _).mono ?_
 rintro e W2 ⟨rfl, k1, rfl⟩
 go_wp2_with fail
 refine (hE.out _).mono ?_
 rintro e W3 ⟨rfl, k2, rfl⟩
 have hd := trN (trN (tr0 W1) k1) k2
 have X := X1.below hd
 have Y := Y1.below hd
 have hB := tr hB1 hd
 clear X1 Y1 hB1 hd hA hE
 generalize ((W1.drewN k1).drewN k2) = W3 at *
 have z2 := X.c2
 have z4 := X.c4
 have f2 := X.free 2
 have f4 := X.free 4
 go_upto_region 6 with (first | (go_at_call 116; refine (hP.out _).mono ?_; rintro e w2 ⟨rfl, rfl⟩))
 have X2 := (X.s2 c').s4 0
 have Y2 := (Y.other w.heap.size 2 (.int .u32 c') (by omega)).other w.heap.size 4 (.int .u64 0) (by omega)
 have hB2 := (hB.setCell (p := ⟨w.heap.size, 2, none⟩) (by simp) (.int .u32 c')).setCell (p := ⟨w.heap.size, 4, none⟩) (by simp) (.int .u64 0)
 clear X Y hB z2 z4 f2 f4 hP
 generalize ((W3.setCell ⟨w.heap.size, 2, none⟩ (.int .u32 c')).setCell ⟨w.heap.size, 4, none⟩ (.int .u64 0)) = W4 at *
 cases ran
 . go_wp2_with (refine loadWg (.tmp 2) rfl rfl rfl X2 ?_)
   refine (hF2.out _).mono ?_
   rintro e W5 ⟨rfl, hb⟩
   have X := X2.below hb
   have Y := Y2.below hb
   have hB := tr hB2 hb
   clear X2 Y2 hB2 hb hF2
   cases b0
   . have Y3 := A5.row Y ld v c' s 0
     have hB3 := below_setRow hB (w5 ld v c' s 0).toArray (g := w.heap.size + 1) (by omega)
     go_wp2_with (first | (refine loadW rfl (.tmp 2) rfl rfl X ?_) | (refine storeW rfl (.tmp 4) (.tmp 31) rfl rfl rfl Y ?_))
     refine bodyPost_ret (resW rfl _ _ rfl Y3) rfl ⟨rfl, hB3⟩
   . have z0 := X.c0
     have z1 := X.c1
     have f1 := X.free 1
     go_upto_region 8 with (fail)
     have X2 := X.s1 ld
     have Y2 := Y.other w.heap.size 1 (.int .u32 ld) (by omega)
     have hB2 := hB.setCell (p := ⟨w.heap.size, 1, none⟩) (by simp) (.int .u32 ld)
     clear X Y hB z0 z1 f1
     generalize (W5.setCell ⟨w.heap.size, 1, none⟩ (.int .u32 ld)) = W6 at *
     have Y3 := A5.row Y2 ld ld c' s 0
     have hB3 := below_setRow hB2 (w5 ld ld c' s 0).toArray (g := w.heap.size + 1) (by omega)
     go_wp2_with (first | (refine loadW rfl (.tmp 2) rfl rfl X2 ?_) | (refine storeW rfl (.tmp 4) (.tmp 31) rfl rfl rfl Y2 ?_))
     refine bodyPost_ret (resW rfl _ _ rfl Y3) rfl ⟨rfl, hB3⟩
 . have Y3 := A5.row Y2 ld v c' s 0
   have hB3 := below_setRow hB2 (w5 ld v c' s 0).toArray (g := w.heap.size + 1) (by omega)
   go_wp2_with (first | (refine loadW rfl (.tmp 2) rfl rfl X2 ?_) | (refine storeW rfl (.tmp 4) (.tmp 31) rfl rfl rfl Y2 ?_))
   refine bodyPost_ret (resW rfl _ _ rfl Y3) rfl ⟨rfl, hB3⟩
def Tm.ord (t : Tm) (x : Int) : Tm := { t with v := if (!t.en && bit x 0) = true then t.ld else t.v, en := bit x 0, re := bit x 1, iq := bit x 2, sc := x / 256 % 256, ph := 0 }
theorem Tm.ord_ok {t : Tm} (h : t.ok) (x : Int) : (t.ord x).ok := by
 have hv : 0 <= (t.ord x).v /\ (t.ord x).v < 4294967296 := by
  show 0 <= (if (!t.en && bit x 0) = true then t.ld else t.v) /\ (if (!t.en && bit x 0) = true then t.ld else t.v) < 4294967296
  have := h.l0; have := h.l1; have := h.v0; have := h.v1
  split <;> omega
 exact ⟨h.l0, h.l1, hv.1, hv.2, by show 0 <= x / 256 % 256; omega, by show x / 256 % 256 < 256; omega, Int.le_refl 0, by show 0 <= x / 256 % 256; omega⟩
theorem nOrd (t : Tm) (x : Int) (w : World) (h : t.ok) (x0 : 0 <= x) (x1 : x < 4294967296) : Calls Tryz.prog 270 #[.agg (wl t).toArray, .int .u32 x] w fun e w' => e = .returned (.agg (wl (t.ord x)).toArray) /\ Below w.heap.size w w' := by
 have hc := (Tm.ord_ok h x).c
 exact nOrderedV t.ld t.v (ctl t.en t.re t.iq t.sc) (tk t.st) t.ph x (ctl (bit x 0) (bit x 1) (bit x 2) (x / 256 % 256)) _ _ t.en (bit x 0) w h.c.1 h.c.2 x0 x1 (ctl_bit0 _ _ _ _) hc.1 hc.2 (ctl_bit0 _ _ _ _) rfl rfl (ctl_put x x0 x1)
end Go.Proofs.YtpojmmgokgamgaaGreat.B
namespace Go.Proofs.YtpojmmgokgamgaaGreat.B
open Go.ChangeShapes Go.WideShapes Go.RowKit
def eqs (xs ys : List Int) : Bool := xs == ys
theorem eqItems_ints {P : Program} (d : Nat) (e : TypeId) (k : IntKind) (he : P.underlying e = some (.int k)) (xs ys : List Int) (w : World) : ∀ is : List Nat, (∀ i ∈ is, i < xs.length /\ i < ys.length) ->
 (Op.eqItems (d + 1) e 1 (xs.map (Value.int k)).toArray (ys.map (Value.int k)).toArray is).run P w = .ok (is.all fun i => xs.getD i 0 == ys.getD i 0) w := by
 intro is
 induction is with
 | nil => intro _; simp [Op.eqItems]
 | cons i is ih =>
   intro h
   obtain ⟨hx, hy⟩ := h i (by simp)
   have px : (part e (xs.map (Value.int k)).toArray (i * 1)).run P w = .ok (.int k (xs.getD i 0)) w := by
    simp [part, isAgg, run_underlying he, List.getD, List.getElem?_eq_getElem hx]
   have py : (part e (ys.map (Value.int k)).toArray (i * 1)).run P w = .ok (.int k (ys.getD i 0)) w := by
    simp [part, isAgg, run_underlying he, List.getD, List.getElem?_eq_getElem hy]
   simp only [Op.eqItems, Sem.run_bind, px, py, run_equalIn_int w d e k k _ _ he, Result.andThen_ok, List.all_cons]
   cases hb : (xs.getD i 0 == ys.getD i 0)
   . simp
   . simp only [Bool.not_true, Bool.false_eq_true, if_false, Bool.true_and]
     exact ih fun j hj => h j (by simp [hj])
theorem all_range (xs ys : List Int) (h : xs.length = ys.length) : ((List.range xs.length).all fun i => xs.getD i 0 == ys.getD i 0) = eqs xs ys := by
 unfold eqs
 rw [Bool.eq_iff_iff, List.all_eq_true, beq_iff_eq]
 constructor
 . intro hh
   apply List.ext_getElem h
   intro i h1 h2
   have := hh i (by simp [h1])
   simpa [List.getD, List.getElem?_eq_getElem h1, List.getElem?_eq_getElem h2] using this
 . rintro rfl i _; simp
theorem eqW (a b c d e a' b' c' d' e' : Int) (w : World) :
 (Op.equalIn 10000 253 (.agg (w5 a b c d e).toArray) (.agg (w5 a' b' c' d' e').toArray)).run Tryz.prog w = .ok (eqs [a, b, c, d] [a', b', c', d'] && (e == e')) w := by
 have hi : (Tryz.prog.info? 22).isSome = true := by kernel_rfl
 obtain ⟨i, hi⟩ := Option.isSome_iff_exists.1 hi
 have hc : Tryz.prog.cellsOf 22 = 1 := by kernel_rfl
 have h := run_equalIn_array w 9998 (i := i) #[.int .u32 a, .int .u32 b, .int .u32 c, .int .u32 d] #[.int .u32 a', .int .u32 b', .int .u32 c', .int .u32 d'] Tryz.underlying181 hi
 rw [hc] at h
 have g := eqItems_ints 9997 22 .u32 Tryz.underlying22 [a, b, c, d] [a', b', c', d'] w (List.range 4) (by intro i hi; simpa using hi)
 have r := all_range [a, b, c, d] [a', b', c', d'] rfl
 have key := (h.trans g).trans (congrArg (fun b => Result.ok b w) r)
 rw [run_equalIn_struct w 9999 253 _ _ (by kernel_rfl) (by kernel_rfl)]
 simp only [Program.fieldsOf, Tryz.underlying253]
 simp only [Op.eqFields]
 have pa : ∀ a b c d e : Int, (part 181 (w5 a b c d e).toArray 0).run Tryz.prog w = .ok (.agg #[.int .u32 a, .int .u32 b, .int .u32 c, .int .u32 d]) w := fun a b c d e => by
  have hs : (sizeOf 181).run Tryz.prog w = .ok 4 w := by kernel_rfl
  have ha : (isAgg 181).run Tryz.prog w = .ok true w := by kernel_rfl
  simp [part, ha, hs, Sem.run_bind, w5]
 have pb : ∀ a b c d e : Int, (part 37 (w5 a b c d e).toArray 4).run Tryz.prog w = .ok (.int .u64 e) w := fun a b c d e => by
  have ha : (isAgg 37).run Tryz.prog w = .ok false w := by kernel_rfl
  simp [part, ha, Sem.run_bind, w5]
 rw [if_pos (by decide), if_pos (by decide)]
 simp only [Sem.run_bind, pa, pb, Result.andThen_ok, key, run_equalIn_int w 9998 37 .u64 .u64 e e' Tryz.underlying37]
 cases eqs [a, b, c, d] [a', b', c', d']
 . simp
 . have hq := run_equalIn_int w 9998 37 .u64 .u64 e e' Tryz.underlying37
   rw [show 9998 + 1 = 9999 from rfl] at hq
   cases hx : e == e'
   . rw [hx] at hq; simp [pb, hq]
   . rw [hx] at hq; simp [pb, hq]
def eqT (s t : Tm) : Bool := eqs [s.ld, s.v, ctl s.en s.re s.iq s.sc, tk s.st] [t.ld, t.v, ctl t.en t.re t.iq t.sc, tk t.st] && (s.ph == t.ph)
theorem eqWl (s t : Tm) (w : World) : (Op.equalIn 10000 253 (.agg (wl s).toArray) (.agg (wl t).toArray)).run Tryz.prog w = .ok (eqT s t) w := eqW _ _ _ _ _ _ _ _ _ _ w
theorem qeqT {C : World -> Prop} {o : Oper} {a : Act} {K : Act -> Prop} (x y : Operand) (u : TypeId) (ho : o.op = .binOp .eql 253 x y u) {s t : Tm} (hx : a.eval x = .agg (wl s).toArray) (hy : a.eval y = .agg (wl t).toArray)
 (h : K (a.put o.dst (.bool (eqT s t)))) : o.quiet Tryz.prog a C K :=
 ⟨_, fun w hw => by
  have hg : (eqGuard .eql 253 x y (.agg (wl s).toArray) (.agg (wl t).toArray)).run Tryz.prog w = .ok () w := by
   have e : Tryz.prog.eqGuardType Tryz.prog.depth 253 = false := by kernel_rfl
   simp [eqGuard, Sem.run_bind, run_program, e]
  have hb : (binOp .eql 253 (.agg (wl s).toArray) (.agg (wl t).toArray)).run Tryz.prog w = .ok (.bool (eqT s t)) w := by
   have e := eqWl s t w
   simp only [binOp, Op.equal, Sem.run_bind, Op.maxDepth]
   rw [e]
   rfl
  unfold Oper.quietAt execOp
  simp only [ho, hx, hy, Sem.run_bind, hg, hb, Result.andThen_ok]
  exact ⟨rfl, rfl⟩, h⟩
theorem eqT_exp {t : Tm} (he : t.en = true) (h : eqT t.exp t = true) : t.exp = t := by
 unfold eqT eqs at h
 simp only [Bool.and_eq_true, beq_iff_eq, List.cons.injEq, and_true] at h
 obtain ⟨⟨h1, h2, h3, h4⟩, h5⟩ := h
 have hen : t.exp.en = t.en := (ctl_inj h3).1
 have hst := tk_inj h4
 unfold Tm.exp at h2 hen hst h5 ⊢
 by_cases c : (t.re && t.ld != 0) = true
 . rw [if_pos c] at h2 hst h5 ⊢
   show Tm.mk t.ld t.ld t.en t.re t.iq t.sc 0 true = t
   obtain ⟨ld, v, en, re, iq, sc, ph, st⟩ := t
   simp only at h2 hst h5
   subst h2 hst h5
   rfl
 . rw [if_neg c] at hen
   rw [he] at hen
   cases hen
end Go.Proofs.YtpojmmgokgamgaaGreat.B
namespace Go.Proofs.YtpojmmgokgamgaaGreat.B
open Go.ChangeShapes Go.WideShapes Go.RowKit Go.Sort
def TAt (w : World) (b : Nat) (T : TypeId) (t : Tm) : Prop := w.heap[b]? = some (.cells (wl t).toArray T (0, 0))
abbrev tC : TypeId := 255
section
variable {w w' : World} {b : Nat} {T : TypeId} {t : Tm}
theorem TAt.a5 (h : TAt w b T t) : A5 w b T t.ld t.v (ctl t.en t.re t.iq t.sc) (tk t.st) t.ph := h
theorem TAt.lt (h : TAt w b T t) : b < w.heap.size := lt_of_block h
theorem TAt.below (h : TAt w b T t) (hb : Below w.heap.size w w') : TAt w' b T t := blk_below hb h h.lt
theorem TAt.off {S : Nat -> Prop} (h : TAt w b T t) (ho : Off S w w') (hs : ¬ S b) : TAt w' b T t := ho.at h hs
theorem TAt.other (h : TAt w b T t) (k j : Nat) (x : Value) (hne : b ≠ k) : TAt (w.setCell ⟨k, j, none⟩ x) b T t := blk_else h k j x hne
theorem TAt.row {old : Array Value} (h : w.heap[b]? = some (.cells old T (0, 0))) (t : Tm) : TAt (w.setRow b (wl t).toArray) b T t := row_set _ h
theorem TAt.elseRow (h : TAt w b T t) (g : Nat) (cs : Array Value) (hne : b ≠ g) : TAt (w.setRow g cs) b T t := row_else g cs h hne
end
theorem off_row (w : World) (p : Nat) (cs : Array Value) : Off (· = p) w (w.setRow p cs) := ⟨rfl, rfl, rfl, by simp, fun k _ hs => setRow_other w p k cs hs⟩
section
variable {ops : Array Oper} {rest : List Oper} {o : Oper} {a : Act} {w : World} {Q : Exit -> Act -> World -> Prop}
theorem loadT (hgd : o.guard = none) (x : Operand) (ho : o.op = .load 253 x) {b : Nat} {T : TypeId} (hx : a.eval x = .pointer (some ⟨b, 0, none⟩)) {t : Tm} (hg : TAt w b T t)
 (h : wpList Tryz.prog ops Q rest (a.put o.dst (.agg (wl t).toArray)) w) : wpList Tryz.prog ops Q (o :: rest) a w := loadW hgd x ho hx hg.a5 h
theorem loadTg (x : Operand) (ho : o.op = .load 253 x) (hw : Region.wanted o (yielded ops a.tmps) = true) {b : Nat} {T : TypeId} (hx : a.eval x = .pointer (some ⟨b, 0, none⟩)) {t : Tm} (hg : TAt w b T t)
 (h : wpList Tryz.prog ops Q rest (a.put o.dst (.agg (wl t).toArray)) w) : wpList Tryz.prog ops Q (o :: rest) a w := loadWg x ho hw hx hg.a5 h
theorem storeT (hgd : o.guard = none) (x y : Operand) (ho : o.op = .store 253 x y) {b : Nat} {T : TypeId} (hx : a.eval x = .pointer (some ⟨b, 0, none⟩)) {t : Tm} (hy : a.eval y = .agg (wl t).toArray) {t' : Tm}
 (hg : TAt w b T t') (h : wpList Tryz.prog ops Q rest (a.put o.dst undef) (w.setRow b (wl t).toArray)) : wpList Tryz.prog ops Q (o :: rest) a w := storeW hgd x y ho hx hy hg.a5 h
theorem qloadT {C : World -> Prop} {K : Act -> Prop} (x : Operand) (ho : o.op = .load 253 x) {b : Nat} {T : TypeId} (hx : a.eval x = .pointer (some ⟨b, 0, none⟩)) {t : Tm} (hg : ∀ w, C w -> TAt w b T t)
 (h : K (a.put o.dst (.agg (wl t).toArray))) : o.quiet Tryz.prog a C K := qloadW x ho hx (fun w hw => (hg w hw).a5) h
end
theorem TAt.grown {w : World} {b : Nat} {T : TypeId} {t : Tm} (h : TAt w b T t) : ∀ w', (∃ p : Regrown, w' = grow (redrawn w p.d) p.os) -> TAt w' b T t := grown_block h
def tz : Tm := ⟨0, 0, false, false, false, 0, 0, false⟩
theorem tz_ok : tz.ok := ⟨by decide, by decide, by decide, by decide, by decide, by decide, by decide, by decide⟩
theorem nNew (w : World) : Calls Tryz.prog 93 #[] w fun e w' => e = .returned (.pointer (some ⟨w.heap.size, 0, none⟩)) /\ w' = w.alloc (.cells (wl tz).toArray tC (0, 0)) := by
 go_enter Tryz.func93, Tryz.ntmps93
 go_wp2_with fail
 go_ret
 exact ⟨rfl, rfl⟩
theorem nRuns (t : Tm) (p : Nat) (w : World) (h : t.ok) (a : TAt w p tC t) :
 Calls Tryz.prog 195 #[.pointer (some ⟨p, 0, none⟩)] w fun e w' => e = .returned (.bool t.en) /\ Below w.heap.size w w' := by
 go_enter Tryz.func195, Tryz.ntmps195
 go_wp2_with (refine loadTg (.tmp 8) rfl rfl rfl a ?_)
 refine (nFlag0 t w h).mono ?_
 rintro e w1 ⟨rfl, hb⟩
 cases he : t.en
 all_goals
  go_wp2_with fail
  go_ret
  exact ⟨ret_bool he.symm, hb⟩
theorem nLine (t : Tm) (p : Nat) (w : World) (h : t.ok) (a : TAt w p tC t) :
 Calls Tryz.prog 183 #[.pointer (some ⟨p, 0, none⟩)] w fun e w' => e = .returned (.bool (t.st && t.iq)) /\ Below w.heap.size w w' := by
 have x3 := a.a5.c3
 cases hs : t.st
 . rw [hs] at x3
   simp only [tk, cond_false] at x3
   go_enter Tryz.func183, Tryz.ntmps183
   go_wp2_with fail
   go_ret
   exact ⟨rfl, tr0 w⟩
 . rw [hs] at x3
   simp only [tk, cond_true] at x3
   go_enter Tryz.func183, Tryz.ntmps183
   go_wp2_with (refine loadTg (.tmp 17) rfl rfl rfl a ?_)
   refine (nFlag2 t w h).mono ?_
   rintro e w1 ⟨rfl, hb⟩
   cases he : t.iq
   all_goals
    go_wp2_with fail
    go_ret
    exact ⟨ret_bool (by rw [he]; rfl), hb⟩
def Tm.lef (t : Tm) : Int := if t.en = true then t.left else 18446744073709551615
def nErr (o : Int) : Int := if (o % 4 != 0) = true then 11 else if 16 <= o then 10 else 0
theorem nErr_zero {o : Int} (o0 : 0 <= o) (h : nErr o = 0) : o = 0 \/ o = 4 \/ o = 8 \/ o = 12 := by
 unfold nErr at h
 cases h4 : (o % 4 != 0)
 . rw [h4] at h; simp at h h4; omega
 . rw [h4] at h; simp at h
theorem nCheck (x : Option Addr) (o : Int) (w : World) (o0 : 0 <= o) (o1 : o < 4294967296) (e : Int) (he : (if x = none then 10 else nErr o) = e) :
 Calls Tryz.prog 217 #[.pointer x, .int .u32 o] w fun e' w' => e' = .returned (.int .i64 e) /\ w = w' := by
 cases x with
 | none =>
   rw [if_pos rfl] at he; subst he
   go_enter Tryz.func217, Tryz.ntmps217
   go_wp2_with fail
   go_ret
   exact ⟨rfl, rfl⟩
 | some x =>
   rw [if_neg (by simp)] at he
   unfold nErr at he
   cases h4 : (o % 4 != 0)
   . rw [h4, if_neg (by simp)] at he
     by_cases h8 : 16 <= o
     all_goals
      first
      | (rw [if_pos h8] at he; subst he)
      | (rw [if_neg h8] at he; subst he)
      go_enter Tryz.func217, Tryz.ntmps217
      go_wp2_with fail
      go_ret
      exact ⟨rfl, rfl⟩
   . rw [h4, if_pos rfl] at he; subst he
     go_enter Tryz.func217, Tryz.ntmps217
     go_wp2_with fail
     go_ret
     exact ⟨rfl, rfl⟩
def Tm.val (t : Tm) (o : Int) : Int := if nErr o = 0 then (if o = 0 then t.ld else if o = 4 then t.v else if o = 8 then ctl t.en t.re t.iq t.sc else tk t.st) else 0
theorem nLoad (t : Tm) (o : Int) (p : Nat) (w : World) (h : t.ok) (a : TAt w p tC t) (o0 : 0 <= o) (o1 : o < 4294967296) :
 Calls Tryz.prog 197 #[.pointer (some ⟨p, 0, none⟩), .int .u32 o] w fun e w' => e = .returned (.tuple #[.int .u32 (t.val o), .int .i64 (nErr o)]) /\ w = w' := by
 have x0 := a.a5.c0
 have x1 := a.a5.c1
 have x2 := a.a5.c2
 have x3 := a.a5.c3
 clear a
 by_cases he : nErr o = 0
 . rcases nErr_zero o0 he with rfl | rfl | rfl | rfl
   all_goals
    go_enter Tryz.func197, Tryz.ntmps197
    go_wp2_with (first | (go_at_call 217; refine (nCheck _ _ _ (by omega) (by omega) 0 (by rfl)).mono ?_; rintro e w' ⟨rfl, rfl⟩))
    go_ret2
    exact ⟨rfl, rfl⟩
 . have hv : t.val o = 0 := by unfold Tm.val; rw [if_neg he]
   rw [hv]
   have hc : (if (some (⟨p, 0, none⟩ : Addr)) = none then 10 else nErr o) = nErr o := by rw [if_neg (by simp)]
   have hn : (nErr o == 0) = false := by simpa using he
   have hn2 : (nErr o != 0) = true := by simpa using he
   go_enter Tryz.func197, Tryz.ntmps197
   go_wp2_with fail
   refine (nCheck _ _ _ o0 o1 _ hc).mono ?_
   rintro e w' ⟨rfl, rfl⟩
   go_wp2_with fail
   go_ret2
   exact ⟨rfl, rfl⟩
theorem nReset (t : Tm) (p : Nat) (w : World) (a : TAt w p tC t) :
 Calls Tryz.prog 267 #[.pointer (some ⟨p, 0, none⟩)] w fun e w' => e = .returned (.tuple #[]) /\ w' = w.setRow p (wl tz).toArray := by
 go_enter Tryz.func267, Tryz.ntmps267
 go_wp2_with (refine storeT rfl (.tmp 7) (.tmp 5) rfl rfl (t := tz) rfl a ?_)
 go_end0
 exact ⟨rfl, rfl⟩
def Tm.sto (t : Tm) (o x : Int) : Tm := if o = 0 then { t with ld := x } else if o = 8 then t.ord x else if o = 12 then { t with st := t.st && !bit x 0 } else t
theorem Tm.sto_ok {t : Tm} (h : t.ok) (o x : Int) (x0 : 0 <= x) (x1 : x < 4294967296) : (t.sto o x).ok := by
 unfold Tm.sto
 split
 . exact ⟨x0, x1, h.v0, h.v1, h.s0, h.s1, h.p0, h.p1⟩
 . split
   . exact Tm.ord_ok h x
   . split
     . exact ⟨h.l0, h.l1, h.v0, h.v1, h.s0, h.s1, h.p0, h.p1⟩
     . exact h
def nSErr (o : Int) : Int := if nErr o = 0 then (if o = 4 then 12 else 0) else nErr o
theorem nStore (t : Tm) (o x : Int) (p : Nat) (w : World) (h : t.ok) (a : TAt w p tC t) (o0 : 0 <= o) (o1 : o < 4294967296) (x0 : 0 <= x) (x1 : x < 4294967296) :
 Calls Tryz.prog 268 #[.pointer (some ⟨p, 0, none⟩), .int .u32 o, .int .u32 x] w fun e w' => e = .returned (.int .i64 (nSErr o)) /\ TAt w' p tC (if nSErr o = 0 then t.sto o x else t) /\ Off (· = p) w w' := by
 by_cases he : nErr o = 0
 . rcases nErr_zero o0 he with rfl | rfl | rfl | rfl
   . have z0 := a.a5.c0
     have f0 := a.a5.free 0
     go_enter Tryz.func268, Tryz.ntmps268
     go_wp2_with (first | (go_at_call 217; refine (nCheck _ _ _ (by omega) (by omega) 0 (by rfl)).mono ?_; rintro e w' ⟨rfl, rfl⟩))
     go_ret
     exact ⟨rfl, a.a5.s0 x, off_set _ _ _ _⟩
   . go_enter Tryz.func268, Tryz.ntmps268
     go_wp2_with (first | (go_at_call 217; refine (nCheck _ _ _ (by omega) (by omega) 0 (by rfl)).mono ?_; rintro e w' ⟨rfl, rfl⟩))
     go_ret
     exact ⟨rfl, a, Off.refl _ _⟩
   . go_enter Tryz.func268, Tryz.ntmps268
     go_wp2_with (first | (go_at_call 217; refine (nCheck _ _ _ (by omega) (by omega) 0 (by rfl)).mono ?_; rintro e w' ⟨rfl, rfl⟩) | (refine loadT rfl (.tmp 29) rfl rfl a ?_))
     refine (nOrd t x w h x0 x1).mono ?_
     rintro e w1 ⟨rfl, hb⟩
     have a1 := a.below hb
     go_wp2_with (refine storeT rfl (.tmp 34) (.tmp 32) rfl rfl rfl a1 ?_)
     go_ret
     exact ⟨rfl, TAt.row a1 _, (Off.ofBelow hb).trans (off_row _ _ _)⟩
   . have z3 := a.a5.c3
     have f3 := a.a5.free 3
     have hk := status_code t.st x x0 x1
     have hl := a.lt
     go_enter Tryz.func268, Tryz.ntmps268
     go_wp2_with (first | (go_at_call 217; refine (nCheck _ _ _ (by omega) (by omega) 0 (by rfl)).mono ?_; rintro e w' ⟨rfl, rfl⟩))
     have hg := gcell
     have hf := gfrozen
     refine wp_region_tail_below 12 (by kernel_rfl) (by kernel_rfl) ?_
     simp only [List.take_succ_cons, List.take_zero, List.drop_succ_cons, List.drop_zero]
     repeat (go_big_quiet_step (fail))
     refine wpQuiet_nil ?_
     intro _ hw'
     obtain ⟨⟨dq, osq⟩, hw''⟩ := hw'
     subst hw''
     go_wp2_with fail
     go_ret
     have a1 := a.below (below_regrown w dq osq)
     refine ⟨rfl, ?_, (Off.ofBelow (below_regrown w dq osq)).trans (off_set _ _ _ _)⟩
     have := a1.a5.s3 (tk (t.st && !bit x 0))
     first
     | (rw [hk]; exact this)
     | exact this
 . have hs : nSErr o = nErr o := by unfold nSErr; rw [if_neg he]
   rw [hs, if_neg he]
   have hc : (if (some (⟨p, 0, none⟩ : Addr)) = none then 10 else nErr o) = nErr o := by rw [if_neg (by simp)]
   have hn : (nErr o == 0) = false := by simpa using he
   have hn2 : (nErr o != 0) = true := by simpa using he
   go_enter Tryz.func268, Tryz.ntmps268
   go_wp2_with fail
   refine (nCheck _ _ _ o0 o1 _ hc).mono ?_
   rintro e w' ⟨rfl, rfl⟩
   go_wp2_with fail
   go_ret
   exact ⟨rfl, a, Off.refl _ _⟩
def r8 (ld v : Int) (en re iq : Bool) (sc ph : Int) (st : Bool) : List Value := [.int .u32 ld, .int .u32 v, .bool en, .bool re, .bool iq, .int .u32 sc, .int .u32 ph, .bool st]
def rl (t : Tm) : List Value := r8 t.ld t.v t.en t.re t.iq t.sc t.ph t.st
abbrev tM : TypeId := 228
def MAt (w : World) (b : Nat) (t : Tm) : Prop := w.heap[b]? = some (.cells (rl t).toArray tM (0, 0))
section
variable {w w' : World} {b : Nat} {t : Tm}
theorem MAt.lt (h : MAt w b t) : b < w.heap.size := lt_of_block h
theorem MAt.below (h : MAt w b t) (hb : Below w.heap.size w w') : MAt w' b t := blk_below hb h h.lt
theorem MAt.off {S : Nat -> Prop} (h : MAt w b t) (ho : Off S w w') (hs : ¬ S b) : MAt w' b t := ho.at h hs
theorem MAt.free (h : MAt w b t) (j : Nat) : w.frozen? ⟨b, j, none⟩ = false := blk_free h j
theorem MAt.c0 (h : MAt w b t) : w.cell? ⟨b, 0, none⟩ = some (.int .u32 t.ld) := by rw [blk_cell h 0]; rfl
theorem MAt.c1 (h : MAt w b t) : w.cell? ⟨b, 1, none⟩ = some (.int .u32 t.v) := by rw [blk_cell h 1]; rfl
theorem MAt.c2 (h : MAt w b t) : w.cell? ⟨b, 2, none⟩ = some (.bool t.en) := by rw [blk_cell h 2]; rfl
theorem MAt.c3 (h : MAt w b t) : w.cell? ⟨b, 3, none⟩ = some (.bool t.re) := by rw [blk_cell h 3]; rfl
theorem MAt.c4 (h : MAt w b t) : w.cell? ⟨b, 4, none⟩ = some (.bool t.iq) := by rw [blk_cell h 4]; rfl
theorem MAt.c5 (h : MAt w b t) : w.cell? ⟨b, 5, none⟩ = some (.int .u32 t.sc) := by rw [blk_cell h 5]; rfl
theorem MAt.c6 (h : MAt w b t) : w.cell? ⟨b, 6, none⟩ = some (.int .u32 t.ph) := by rw [blk_cell h 6]; rfl
theorem MAt.set (h : MAt w b t) (j : Nat) (x : Value) {s : Tm} (he : (rl t).set j x = rl s) : MAt (w.setCell ⟨b, j, none⟩ x) b s := by
 unfold MAt; rw [blk_set h, <- he]; simp
theorem MAt.s0 (h : MAt w b t) (x : Int) : MAt (w.setCell ⟨b, 0, none⟩ (.int .u32 x)) b { t with ld := x } := h.set _ _ rfl
theorem MAt.s1 (h : MAt w b t) (x : Int) : MAt (w.setCell ⟨b, 1, none⟩ (.int .u32 x)) b { t with v := x } := h.set _ _ rfl
theorem MAt.s2 (h : MAt w b t) (x : Bool) : MAt (w.setCell ⟨b, 2, none⟩ (.bool x)) b { t with en := x } := h.set _ _ rfl
theorem MAt.s3 (h : MAt w b t) (x : Bool) : MAt (w.setCell ⟨b, 3, none⟩ (.bool x)) b { t with re := x } := h.set _ _ rfl
theorem MAt.s4 (h : MAt w b t) (x : Bool) : MAt (w.setCell ⟨b, 4, none⟩ (.bool x)) b { t with iq := x } := h.set _ _ rfl
theorem MAt.s5 (h : MAt w b t) (x : Int) : MAt (w.setCell ⟨b, 5, none⟩ (.int .u32 x)) b { t with sc := x } := h.set _ _ rfl
theorem MAt.s6 (h : MAt w b t) (x : Int) : MAt (w.setCell ⟨b, 6, none⟩ (.int .u32 x)) b { t with ph := x } := h.set _ _ rfl
theorem MAt.other (h : MAt w b t) (k j : Nat) (x : Value) (hne : b ≠ k) : MAt (w.setCell ⟨k, j, none⟩ x) b t := blk_else h k j x hne
theorem MAt.row {old : Array Value} (h : w.heap[b]? = some (.cells old tM (0, 0))) (t : Tm) : MAt (w.setRow b (rl t).toArray) b t := row_set _ h
theorem MAt.elseRow (h : MAt w b t) (g : Nat) (cs : Array Value) (hne : b ≠ g) : MAt (w.setRow g cs) b t := row_else g cs h hne
theorem MAt.grown (h : MAt w b t) : ∀ w', (∃ p : Regrown, w' = grow (redrawn w p.d) p.os) -> MAt w' b t := grown_block h
end
section
variable {ops : Array Oper} {rest : List Oper} {o : Oper} {a : Act} {w : World} {Q : Exit -> Act -> World -> Prop}
end
end Go.Proofs.YtpojmmgokgamgaaGreat.B
