/- A part of the proof of a law of layer 12: ae. -/
import Derived.Test.YtaohacadochldaaGreatZCad
import Derived.Laws.StructEq
import Derived.ChangeKeysEq
set_option linter.unusedVariables false
set_option linter.unusedSimpArgs false
set_option maxHeartbeats 12800000
set_option maxRecDepth 100000
namespace Go.Proofs.YtaohacadochldaaGreat.B
open Go.Proofs.Tryz
open Go.ChangeShapes Go.WideShapes Go.RowKit Go.Sort
theorem aGm (ld v c s ph : Int) (w : World) (c0 : 0 <= c) (c1 : c < 4294967296) (r : Bool) (hr : aO c 0 = r) :
 Calls prog 224 #[.agg (w5 ld v c s ph).toArray, .int .i64 0] w fun e w' => e = .returned (.bool r) /\ Below w.heap.size w w' := by
 have := yK ld v c s ph 0 0 w c0 c1 rfl (by omega)
 rw [hr] at this
 exact this
theorem rB {P : Prop} (h : P := by
 refine bodyPost_ret (aMo rfl _ _ rfl Y3) rfl ⟨rfl, hB3⟩
 ) : P := h
theorem aEm (ld v c s ph x c' a b : Int) (ran b0 : Bool) (w : World) (c0 : 0 <= c) (c1 : c < 4294967296) (x0 : 0 <= x) (x1 : x < 4294967296) (hr : aO c 0 = ran) (d0 : 0 <= c') (d1 : c' < 4294967296) (hb : aO c' 0 = b0)
 (ha : field x 0 3 = a) (hb8 : field x 8 8 = b) (hp : put a 8 8 b = c') :
 Calls prog 283 #[.agg (w5 ld v c s ph).toArray, .int .u32 x] w fun e w' => e = .returned (.agg (w5 ld (if (!ran && b0) = true then ld else v) c' s 0).toArray) /\ Below w.heap.size w w' := by
 obtain ⟨a0, a1⟩ : 0 <= a /\ a < 4294967296 := by rw [<- ha]; exact pV _ _ _ x0 x1
 obtain ⟨e0, e1⟩ : 0 <= b /\ b < 4294967296 := by rw [<- hb8]; exact pV _ _ _ x0 x1
 have hF1 := Hd (fun w => aGm ld v c s ph w c0 c1 ran hr)
 have hF2 := Hd (fun w => aGm ld v c' s 0 w d0 d1 b0 hb)
 have hA := Hd (fun w => by have := Field x 0 3 w x0 x1 (by omega) (by omega); rw [ha] at this; exact this)
 have hE := Hd (fun w => by have := Field x 8 8 w x0 x1 (by omega) (by omega); rw [hb8] at this; exact this)
 have hP := Hd (fun w => by have := Put a 8 8 b w a0 a1 (by omega) (by omega) e0 e1; rw [hp] at this; exact this)
 clear hr hb ha hb8 hp
 have hB := aE (aE (aH w) (.cells (w5 ld v c s ph).toArray 298 (0, 0))) (.cells (w5 0 0 0 0 0).toArray 298 (0, 0))
 have X : A5 _ _ _ ld v c s ph := bM w (.cells (w5 ld v c s ph).toArray 298 (0, 0)) (.cells (w5 0 0 0 0 0).toArray 298 (0, 0))
 have Y : A5 _ _ _ 0 0 0 0 0 := bU w (.cells (w5 ld v c s ph).toArray 298 (0, 0)) (.cells (w5 0 0 0 0 0).toArray 298 (0, 0))
 go_enter func283, ntmps283
 go_upto_region 1 with (fail)
 rw [aBx]
 generalize ((w.alloc (.cells (w5 ld v c s ph).toArray 298 (0, 0))).alloc (.cells (w5 0 0 0 0 0).toArray 298 (0, 0))) = W at *
 go_wp2_with (refine mY rfl (.tmp 2) rfl rfl X ?_)
 refine (hF1.out _).mono ?_
 rintro e W1 ⟨rfl, hb⟩
 have X1 := X.below hb
 have Y1 := Y.below hb
 have hB1 := tr hB hb
 clear X Y hB hb hF1
 go_wp2_with fail
 refine (hA.out _).mono ?_
 rintro e W2 ⟨rfl, k1, rfl⟩
 go_wp2_with fail
 refine (hE.out _).mono ?_
 rintro e W3 ⟨rfl, k2, rfl⟩
 have hd := vG (vG (aH W1) k1) k2
 have X := X1.below hd
 have Y := Y1.below hd
 have hB := tr hB1 hd
 clear X1 Y1 hB1 hd hA hE
 generalize ((W1.drewN k1).drewN k2) = W3 at *
 have z2 := X.c2
 have z4 := X.c4
 have f2 := X.free 2
 have f4 := X.free 4
 go_upto_region 6 with (first | (go_at_call 112; refine (hP.out _).mono ?_; rintro e w2 ⟨rfl, rfl⟩))
 have X2 := (X.s2 c').s4 0
 have Y2 := (Y.other w.heap.size 2 (.int .u32 c') (by omega)).other w.heap.size 4 (.int .u64 0) (by omega)
 have hB2 := (hB.setCell (p := ⟨w.heap.size, 2, none⟩) (by simp) (.int .u32 c')).setCell (p := ⟨w.heap.size, 4, none⟩) (by simp) (.int .u64 0)
 clear X Y hB z2 z4 f2 f4 hP
 generalize ((W3.setCell ⟨w.heap.size, 2, none⟩ (.int .u32 c')).setCell ⟨w.heap.size, 4, none⟩ (.int .u64 0)) = W4 at *
 cases ran
 . go_wp2_with (refine aGc (.tmp 2) rfl rfl rfl X2 ?_)
   refine (hF2.out _).mono ?_
   rintro e W5 ⟨rfl, hb⟩
   have X := X2.below hb
   have Y := Y2.below hb
   have hB := tr hB2 hb
   clear X2 Y2 hB2 hb hF2
   cases b0
   . have Y3 := A5.row Y ld v c' s 0
     have hB3 := aB hB (w5 ld v c' s 0).toArray (g := w.heap.size + 1) (by omega)
     go_wp2_with (first | (refine mY rfl (.tmp 2) rfl rfl X ?_) | (refine sD rfl (.tmp 4) (.tmp 31) rfl rfl rfl Y ?_))
     exact rB
   . have z0 := X.c0
     have z1 := X.c1
     have f1 := X.free 1
     go_upto_region 8 with (fail)
     have X2 := X.s1 ld
     have Y2 := Y.other w.heap.size 1 (.int .u32 ld) (by omega)
     have hB2 := hB.setCell (p := ⟨w.heap.size, 1, none⟩) (by simp) (.int .u32 ld)
     clear X Y hB z0 z1 f1
     generalize (W5.setCell ⟨w.heap.size, 1, none⟩ (.int .u32 ld)) = W6 at *
     have Y3 := A5.row Y2 ld ld c' s 0
     have hB3 := aB hB2 (w5 ld ld c' s 0).toArray (g := w.heap.size + 1) (by omega)
     go_wp2_with (first | (refine mY rfl (.tmp 2) rfl rfl X2 ?_) | (refine sD rfl (.tmp 4) (.tmp 31) rfl rfl rfl Y2 ?_))
     exact rB
 . have Y3 := A5.row Y2 ld v c' s 0
   have hB3 := aB hB2 (w5 ld v c' s 0).toArray (g := w.heap.size + 1) (by omega)
   go_wp2_with (first | (refine mY rfl (.tmp 2) rfl rfl X2 ?_) | (refine sD rfl (.tmp 4) (.tmp 31) rfl rfl rfl Y2 ?_))
   exact rB
def Tm.ord (t : Tm) (x : Int) : Tm := { t with v := if (!t.en && aO x 0) = true then t.ld else t.v, en := aO x 0, re := aO x 1, iq := aO x 2, sc := x / 256 % 256, ph := 0 }
theorem Tm.ord_ok {t : Tm} (h : t.ok) (x : Int) : (t.ord x).ok := by
 have hv : 0 <= (t.ord x).v /\ (t.ord x).v < 4294967296 := by
  show 0 <= (if (!t.en && aO x 0) = true then t.ld else t.v) /\ (if (!t.en && aO x 0) = true then t.ld else t.v) < 4294967296
  have := h.l0; have := h.l1; have := h.v0; have := h.v1
  split <;> omega
 exact ⟨h.l0, h.l1, hv.1, hv.2, by show 0 <= x / 256 % 256; omega, by show x / 256 % 256 < 256; omega, Int.le_refl 0, by show 0 <= x / 256 % 256; omega⟩
theorem aP0 (t : Tm) (x : Int) (w : World) (h : t.ok) (x0 : 0 <= x) (x1 : x < 4294967296) : Calls prog 283 #[.agg (wl t).toArray, .int .u32 x] w fun e w' => e = .returned (.agg (wl (t.ord x)).toArray) /\ Below w.heap.size w w' := by
 have hc := (Tm.ord_ok h x).c
 exact aEm t.ld t.v (mK t.en t.re t.iq t.sc) (tk t.st) t.ph x (mK (aO x 0) (aO x 1) (aO x 2) (x / 256 % 256)) _ _ t.en (aO x 0) w h.c.1 h.c.2 x0 x1 (mT _ _ _ _) hc.1 hc.2 (mT _ _ _ _) rfl rfl (aIR x x0 x1)
def eqs (xs ys : List Int) : Bool := xs == ys
theorem pQ {P : Program} (d : Nat) (e : TypeId) (k : IntKind) (he : P.underlying e = some (.int k)) (xs ys : List Int) (w : World) : ∀ is : List Nat, (∀ i ∈ is, i < xs.length /\ i < ys.length) ->
 (Op.eqItems (d + 1) e 1 (xs.map (Value.int k)).toArray (ys.map (Value.int k)).toArray is).run P w = .ok (is.all fun i => xs.getD i 0 == ys.getD i 0) w := by
 intro is
 induction is with
 | nil => intro _; simp [Op.eqItems]
 | cons i is ih =>
   intro h
   obtain ⟨hx, hy⟩ := h i (by simp)
   have px : (part e (xs.map (Value.int k)).toArray (i * 1)).run P w = .ok (.int k (xs.getD i 0)) w := by
    simp [part, isAgg, run_underlying he, List.getD, List.getElem?_eq_getElem hx]
   have py : (part e (ys.map (Value.int k)).toArray (i * 1)).run P w = .ok (.int k (ys.getD i 0)) w := by
    simp [part, isAgg, run_underlying he, List.getD, List.getElem?_eq_getElem hy]
   simp only [Op.eqItems, Sem.run_bind, px, py, run_equalIn_int w d e k k _ _ he, Result.andThen_ok, List.all_cons]
   cases hb : (xs.getD i 0 == ys.getD i 0)
   . simp
   . simp only [Bool.not_true, Bool.false_eq_true, if_false, Bool.true_and]
     exact ih fun j hj => h j (by simp [hj])
theorem xS (xs ys : List Int) (h : xs.length = ys.length) : ((List.range xs.length).all fun i => xs.getD i 0 == ys.getD i 0) = eqs xs ys := by
 unfold eqs
 rw [Bool.eq_iff_iff, List.all_eq_true, beq_iff_eq]
 constructor
 . intro hh
   apply List.ext_getElem h
   intro i h1 h2
   have := hh i (by simp [h1])
   simpa [List.getD, List.getElem?_eq_getElem h1, List.getElem?_eq_getElem h2] using this
 . rintro rfl i _; simp
theorem eqW (a b c d e a' b' c' d' e' : Int) (w : World) :
 (Op.equalIn 10000 298 (.agg (w5 a b c d e).toArray) (.agg (w5 a' b' c' d' e').toArray)).run prog w = .ok (eqs [a, b, c, d] [a', b', c', d'] && (e == e')) w := by
 have hi : (prog.info? 26).isSome = true := by kernel_rfl
 obtain ⟨i, hi⟩ := Option.isSome_iff_exists.1 hi
 have hc : prog.cellsOf 26 = 1 := by kernel_rfl
 have h := run_equalIn_array w 9998 (i := i) #[.int .u32 a, .int .u32 b, .int .u32 c, .int .u32 d] #[.int .u32 a', .int .u32 b', .int .u32 c', .int .u32 d'] underlying253 hi
 rw [hc] at h
 have g := pQ 9997 26 .u32 underlying26 [a, b, c, d] [a', b', c', d'] w (List.range 4) (by intro i hi; simpa using hi)
 have r := xS [a, b, c, d] [a', b', c', d'] rfl
 have key := (h.trans g).trans (congrArg (fun b => Result.ok b w) r)
 rw [run_equalIn_struct w 9999 298 _ _ (by kernel_rfl) (by kernel_rfl)]
 simp only [Program.fieldsOf, underlying298]
 simp only [Op.eqFields]
 have pa : ∀ a b c d e : Int, (part 253 (w5 a b c d e).toArray 0).run prog w = .ok (.agg #[.int .u32 a, .int .u32 b, .int .u32 c, .int .u32 d]) w := fun a b c d e => by
  have hs : (sizeOf 253).run prog w = .ok 4 w := by kernel_rfl
  have ha : (isAgg 253).run prog w = .ok true w := by kernel_rfl
  simp [part, ha, hs, Sem.run_bind, w5]
 have pb : ∀ a b c d e : Int, (part 24 (w5 a b c d e).toArray 4).run prog w = .ok (.int .u64 e) w := fun a b c d e => by
  have ha : (isAgg 24).run prog w = .ok false w := by kernel_rfl
  simp [part, ha, Sem.run_bind, w5]
 rw [if_pos (by decide), if_pos (by decide)]
 simp only [Sem.run_bind, pa, pb, Result.andThen_ok, key, run_equalIn_int w 9998 24 .u64 .u64 e e' underlying24]
 cases eqs [a, b, c, d] [a', b', c', d']
 . simp
 . have hq := run_equalIn_int w 9998 24 .u64 .u64 e e' underlying24
   rw [show 9998 + 1 = 9999 from rfl] at hq
   cases hx : e == e'
   . rw [hx] at hq; simp [pb, hq]
   . rw [hx] at hq; simp [pb, hq]
def eqT (s t : Tm) : Bool := eqs [s.ld, s.v, mK s.en s.re s.iq s.sc, tk s.st] [t.ld, t.v, mK t.en t.re t.iq t.sc, tk t.st] && (s.ph == t.ph)
theorem aPh (s t : Tm) (w : World) : (Op.equalIn 10000 298 (.agg (wl s).toArray) (.agg (wl t).toArray)).run prog w = .ok (eqT s t) w := eqW _ _ _ _ _ _ _ _ _ _ w
theorem aOk {C : World -> Prop} {o : Oper} {a : Act} {K : Act -> Prop} (x y : Operand) (u : TypeId) (ho : o.op = .binOp .eql 298 x y u) {s t : Tm} (hx : a.eval x = .agg (wl s).toArray) (hy : a.eval y = .agg (wl t).toArray)
 (h : K (a.put o.dst (.bool (eqT s t)))) : o.quiet prog a C K :=
 ⟨_, fun w hw => by
  have hg : (eqGuard .eql 298 x y (.agg (wl s).toArray) (.agg (wl t).toArray)).run prog w = .ok () w := by
   have e : prog.eqGuardType prog.depth 298 = false := by kernel_rfl
   simp [eqGuard, Sem.run_bind, run_program, e]
  have hb : (binOp .eql 298 (.agg (wl s).toArray) (.agg (wl t).toArray)).run prog w = .ok (.bool (eqT s t)) w := by
   have e := aPh s t w
   simp only [binOp, Op.equal, Sem.run_bind, Op.maxDepth]
   rw [e]
   rfl
  unfold Oper.quietAt execOp
  simp only [ho, hx, hy, Sem.run_bind, hg, hb, Result.andThen_ok]
  exact ⟨rfl, rfl⟩, h⟩
theorem aIa {t : Tm} (he : t.en = true) (h : eqT t.exp t = true) : t.exp = t := by
 unfold eqT eqs at h
 simp only [Bool.and_eq_true, beq_iff_eq, List.cons.injEq, and_true] at h
 obtain ⟨⟨h1, h2, h3, h4⟩, h5⟩ := h
 have hen : t.exp.en = t.en := (aIQ h3).1
 have hst := aM8 h4
 unfold Tm.exp at h2 hen hst h5 ⊢
 by_cases c : (t.re && t.ld != 0) = true
 . rw [if_pos c] at h2 hst h5 ⊢
   show Tm.mk t.ld t.ld t.en t.re t.iq t.sc 0 true = t
   obtain ⟨ld, v, en, re, iq, sc, ph, st⟩ := t
   simp only at h2 hst h5
   subst h2 hst h5
   rfl
 . rw [if_neg c] at hen
   rw [he] at hen
   cases hen
def jN (w : World) (b : Nat) (T : TypeId) (t : Tm) : Prop := w.heap[b]? = some (.cells (wl t).toArray T (0, 0))
abbrev tC : TypeId := 300
section
variable {w w' : World} {b : Nat} {T : TypeId} {t : Tm}
theorem jN.a5 (h : jN w b T t) : A5 w b T t.ld t.v (mK t.en t.re t.iq t.sc) (tk t.st) t.ph := h
theorem jN.lt (h : jN w b T t) : b < w.heap.size := lt_of_block h
theorem jN.below (h : jN w b T t) (hb : Below w.heap.size w w') : jN w' b T t := aC hb h h.lt
theorem jN.off {S : Nat -> Prop} (h : jN w b T t) (ho : aF S w w') (hs : ¬ S b) : jN w' b T t := ho.at h hs
theorem jN.other (h : jN w b T t) (k j : Nat) (x : Value) (hne : b ≠ k) : jN (w.setCell ⟨k, j, none⟩ x) b T t := aV h k j x hne
theorem jN.row {old : Array Value} (h : w.heap[b]? = some (.cells old T (0, 0))) (t : Tm) : jN (w.setRow b (wl t).toArray) b T t := aY _ h
theorem jN.elseRow (h : jN w b T t) (g : Nat) (cs : Array Value) (hne : b ≠ g) : jN (w.setRow g cs) b T t := eQ g cs h hne
end
theorem sY (w : World) (p : Nat) (cs : Array Value) : aF (· = p) w (w.setRow p cs) := ⟨rfl, rfl, rfl, by simp, fun k _ hs => setRow_other w p k cs hs⟩
section
variable {ops : Array Oper} {rest : List Oper} {o : Oper} {a : Act} {w : World} {Q : Exit -> Act -> World -> Prop}
theorem uL (hgd : o.guard = none) (x : Operand) (ho : o.op = .load 298 x) {b : Nat} {T : TypeId} (hx : a.eval x = .pointer (some ⟨b, 0, none⟩)) {t : Tm} (hg : jN w b T t)
 (h : wpList prog ops Q rest (a.put o.dst (.agg (wl t).toArray)) w) : wpList prog ops Q (o :: rest) a w := mY hgd x ho hx hg.a5 h
theorem aCi (x : Operand) (ho : o.op = .load 298 x) (hw : Region.wanted o (yielded ops a.tmps) = true) {b : Nat} {T : TypeId} (hx : a.eval x = .pointer (some ⟨b, 0, none⟩)) {t : Tm} (hg : jN w b T t)
 (h : wpList prog ops Q rest (a.put o.dst (.agg (wl t).toArray)) w) : wpList prog ops Q (o :: rest) a w := aGc x ho hw hx hg.a5 h
theorem vF (hgd : o.guard = none) (x y : Operand) (ho : o.op = .store 298 x y) {b : Nat} {T : TypeId} (hx : a.eval x = .pointer (some ⟨b, 0, none⟩)) {t : Tm} (hy : a.eval y = .agg (wl t).toArray) {t' : Tm}
 (hg : jN w b T t') (h : wpList prog ops Q rest (a.put o.dst undef) (w.setRow b (wl t).toArray)) : wpList prog ops Q (o :: rest) a w := sD hgd x y ho hx hy hg.a5 h
theorem aAP {C : World -> Prop} {K : Act -> Prop} (x : Operand) (ho : o.op = .load 298 x) {b : Nat} {T : TypeId} (hx : a.eval x = .pointer (some ⟨b, 0, none⟩)) {t : Tm} (hg : ∀ w, C w -> jN w b T t)
 (h : K (a.put o.dst (.agg (wl t).toArray))) : o.quiet prog a C K := aHA x ho hx (fun w hw => (hg w hw).a5) h
end
theorem jN.grown {w : World} {b : Nat} {T : TypeId} {t : Tm} (h : jN w b T t) : ∀ w', (∃ p : Regrown, w' = grow (redrawn w p.d) p.os) -> jN w' b T t := bZ h
def tz : Tm := ⟨0, 0, false, false, false, 0, 0, false⟩
theorem aD5 : tz.ok := ⟨by decide, by decide, by decide, by decide, by decide, by decide, by decide, by decide⟩
theorem aPz (w : World) : Calls prog 179 #[] w fun e w' => e = .returned (.pointer (some ⟨w.heap.size, 0, none⟩)) /\ w' = w.alloc (.cells (wl tz).toArray tC (0, 0)) := by
 go_enter func179, ntmps179
 exact aU
theorem aDp (t : Tm) (p : Nat) (w : World) (h : t.ok) (a : jN w p tC t) :
 Calls prog 203 #[.pointer (some ⟨p, 0, none⟩)] w fun e w' => e = .returned (.bool t.en) /\ Below w.heap.size w w' := by
 go_enter func203, ntmps203
 go_wp2_with (refine aCi (.tmp 8) rfl rfl rfl a ?_)
 refine (aMH t w h).mono ?_
 rintro e w1 ⟨rfl, hb⟩
 cases he : t.en
 all_goals
  go_wp2_with fail
  go_ret
  exact ⟨cU he.symm, hb⟩
theorem aKT (t : Tm) (p : Nat) (w : World) (h : t.ok) (a : jN w p tC t) :
 Calls prog 190 #[.pointer (some ⟨p, 0, none⟩)] w fun e w' => e = .returned (.bool (t.st && t.iq)) /\ Below w.heap.size w w' := by
 have x3 := a.a5.c3
 cases hs : t.st
 . rw [hs] at x3
   simp only [tk, cond_false] at x3
   go_enter func190, ntmps190
   go_wp2_with fail
   go_ret
   exact ⟨rfl, aH w⟩
 . rw [hs] at x3
   simp only [tk, cond_true] at x3
   go_enter func190, ntmps190
   go_wp2_with (refine aCi (.tmp 17) rfl rfl rfl a ?_)
   refine (aMI t w h).mono ?_
   rintro e w1 ⟨rfl, hb⟩
   cases he : t.iq
   all_goals
    go_wp2_with fail
    go_ret
    exact ⟨cU (by rw [he]; rfl), hb⟩
def Tm.lef (t : Tm) : Int := if t.en = true then t.left else 18446744073709551615
theorem bS {P : Prop} (h : P := by
 go_wp2_with fail
 go_ret
 exact ⟨rfl, hb⟩
 ) : P := h
theorem aGn (t : Tm) (p : Nat) (w : World) (h : t.ok) (a : jN w p tC t) :
 Calls prog 202 #[.pointer (some ⟨p, 0, none⟩)] w fun e w' => e = .returned (.int .u64 t.lef) /\ Below w.heap.size w w' := by
 have hr := aDp t p w h a
 unfold Tm.lef
 cases he : t.en
 . rw [he] at hr
   go_enter func202, ntmps202
   go_wp2_with fail
   refine hr.mono ?_
   rintro e w1 ⟨rfl, hb⟩
   exact bS
 . rw [he] at hr
   go_enter func202, ntmps202
   go_wp2_with fail
   refine hr.mono ?_
   rintro e w1 ⟨rfl, hb⟩
   have a1 := a.below hb
   go_wp2_with (refine uL rfl (.tmp 8) rfl rfl a1 ?_)
   refine (aMJ t w1 h).mono ?_
   rintro e w2 ⟨rfl, hb2⟩
   go_wp2_with fail
   go_ret
   exact ⟨rfl, tr hb hb2⟩
def fR (o : Int) : Int := if (o % 4 != 0) = true then 11 else if 16 <= o then 10 else 0
theorem rV {o : Int} (o0 : 0 <= o) (h : fR o = 0) : o = 0 \/ o = 4 \/ o = 8 \/ o = 12 := by
 unfold fR at h
 cases h4 : (o % 4 != 0)
 . rw [h4] at h; simp at h h4; omega
 . rw [h4] at h; simp at h
theorem pG (x : Option Addr) (o : Int) (w : World) (o0 : 0 <= o) (o1 : o < 4294967296) (e : Int) (he : (if x = none then 10 else fR o) = e) :
 Calls prog 228 #[.pointer x, .int .u32 o] w fun e' w' => e' = .returned (.int .i64 e) /\ w = w' := by
 cases x with
 | none =>
   rw [if_pos rfl] at he; subst he
   go_enter func228, ntmps228
   go_wp2_with fail
   go_ret
   exact ⟨rfl, rfl⟩
 | some x =>
   rw [if_neg (by simp)] at he
   unfold fR at he
   cases h4 : (o % 4 != 0)
   . rw [h4, if_neg (by simp)] at he
     by_cases h8 : 16 <= o
     all_goals
      first
      | (rw [if_pos h8] at he; subst he)
      | (rw [if_neg h8] at he; subst he)
      go_enter func228, ntmps228
      go_wp2_with fail
      go_ret
      exact ⟨rfl, rfl⟩
   . rw [h4, if_pos rfl] at he; subst he
     go_enter func228, ntmps228
     go_wp2_with fail
     go_ret
     exact ⟨rfl, rfl⟩
def Tm.val (t : Tm) (o : Int) : Int := if fR o = 0 then (if o = 0 then t.ld else if o = 4 then t.v else if o = 8 then mK t.en t.re t.iq t.sc else tk t.st) else 0
theorem nO {P : Prop} (h : P := by
 go_wp2_with fail
 go_ret2
 exact ⟨rfl, rfl⟩
 ) : P := h
theorem aKU (t : Tm) (o : Int) (p : Nat) (w : World) (h : t.ok) (a : jN w p tC t) (o0 : 0 <= o) (o1 : o < 4294967296) :
 Calls prog 205 #[.pointer (some ⟨p, 0, none⟩), .int .u32 o] w fun e w' => e = .returned (.tuple #[.int .u32 (t.val o), .int .i64 (fR o)]) /\ w = w' := by
 have x0 := a.a5.c0
 have x1 := a.a5.c1
 have x2 := a.a5.c2
 have x3 := a.a5.c3
 clear a
 by_cases he : fR o = 0
 . rcases rV o0 he with rfl | rfl | rfl | rfl
   all_goals
    go_enter func205, ntmps205
    go_wp2_with (first | (go_at_call 228; refine (pG _ _ _ (by omega) (by omega) 0 (by rfl)).mono ?_; rintro e w' ⟨rfl, rfl⟩))
    go_ret2
    exact ⟨rfl, rfl⟩
 . have hv : t.val o = 0 := by unfold Tm.val; rw [if_neg he]
   rw [hv]
   have hc : (if (some (⟨p, 0, none⟩ : Addr)) = none then 10 else fR o) = fR o := by rw [if_neg (by simp)]
   have hn : (fR o == 0) = false := by simpa using he
   have hn2 : (fR o != 0) = true := by simpa using he
   go_enter func205, ntmps205
   go_wp2_with fail
   refine (pG _ _ _ o0 o1 _ hc).mono ?_
   rintro e w' ⟨rfl, rfl⟩
   exact nO
theorem aML (t : Tm) (p : Nat) (w : World) (a : jN w p tC t) :
 Calls prog 280 #[.pointer (some ⟨p, 0, none⟩)] w fun e w' => e = .returned (.tuple #[]) /\ w' = w.setRow p (wl tz).toArray := by
 go_enter func280, ntmps280
 go_wp2_with (refine vF rfl (.tmp 7) (.tmp 5) rfl rfl (t := tz) rfl a ?_)
 go_end0
 exact ⟨rfl, rfl⟩
theorem aOV (t : Tm) (p : Nat) (w : World) (a : jN w p tC t) :
 Calls prog 204 #[.pointer (some ⟨p, 0, none⟩)] w fun e w' => e = .returned (.pointer (some ⟨w.heap.size, 0, none⟩)) /\ w' = w.alloc (.cells (wl t).toArray tC (0, 0)) := by
 have x0 := a.a5.c0
 have x1 := a.a5.c1
 have x2 := a.a5.c2
 have x3 := a.a5.c3
 have x4 := a.a5.c4
 clear a
 go_enter func204, ntmps204
 exact aU
def Tm.sto (t : Tm) (o x : Int) : Tm := if o = 0 then { t with ld := x } else if o = 8 then t.ord x else if o = 12 then { t with st := t.st && !aO x 0 } else t
theorem Tm.sto_ok {t : Tm} (h : t.ok) (o x : Int) (x0 : 0 <= x) (x1 : x < 4294967296) : (t.sto o x).ok := by
 unfold Tm.sto
 split
 . exact ⟨x0, x1, h.v0, h.v1, h.s0, h.s1, h.p0, h.p1⟩
 . split
   . exact Tm.ord_ok h x
   . split
     . exact ⟨h.l0, h.l1, h.v0, h.v1, h.s0, h.s1, h.p0, h.p1⟩
     . exact h
def fV (o : Int) : Int := if fR o = 0 then (if o = 4 then 12 else 0) else fR o
theorem nL {P : Prop} (h : P := by
 rintro e w' ⟨rfl, rfl⟩
 go_wp2_with fail
 go_ret
 exact ⟨rfl, a, aF.refl _ _⟩
 ) : P := h
theorem aMM (t : Tm) (o x : Int) (p : Nat) (w : World) (h : t.ok) (a : jN w p tC t) (o0 : 0 <= o) (o1 : o < 4294967296) (x0 : 0 <= x) (x1 : x < 4294967296) :
 Calls prog 281 #[.pointer (some ⟨p, 0, none⟩), .int .u32 o, .int .u32 x] w fun e w' => e = .returned (.int .i64 (fV o)) /\ jN w' p tC (if fV o = 0 then t.sto o x else t) /\ aF (· = p) w w' := by
 by_cases he : fR o = 0
 . rcases rV o0 he with rfl | rfl | rfl | rfl
   . have z0 := a.a5.c0
     have f0 := a.a5.free 0
     go_enter func281, ntmps281
     go_wp2_with (first | (go_at_call 228; refine (pG _ _ _ (by omega) (by omega) 0 (by rfl)).mono ?_; rintro e w' ⟨rfl, rfl⟩))
     go_ret
     exact ⟨rfl, a.a5.s0 x, aG _ _ _ _⟩
   . go_enter func281, ntmps281
     go_wp2_with (first | (go_at_call 228; refine (pG _ _ _ (by omega) (by omega) 0 (by rfl)).mono ?_; rintro e w' ⟨rfl, rfl⟩))
     go_ret
     exact ⟨rfl, a, aF.refl _ _⟩
   . go_enter func281, ntmps281
     go_wp2_with (first | (go_at_call 228; refine (pG _ _ _ (by omega) (by omega) 0 (by rfl)).mono ?_; rintro e w' ⟨rfl, rfl⟩) | (refine uL rfl (.tmp 29) rfl rfl a ?_))
     refine (aP0 t x w h x0 x1).mono ?_
     rintro e w1 ⟨rfl, hb⟩
     have a1 := a.below hb
     go_wp2_with (refine vF rfl (.tmp 34) (.tmp 32) rfl rfl rfl a1 ?_)
     go_ret
     exact ⟨rfl, jN.row a1 _, (aF.ofBelow hb).trans (sY _ _ _)⟩
   . have z3 := a.a5.c3
     have f3 := a.a5.free 3
     have hk := aBh t.st x x0 x1
     have hl := a.lt
     go_enter func281, ntmps281
     go_wp2_with (first | (go_at_call 228; refine (pG _ _ _ (by omega) (by omega) 0 (by rfl)).mono ?_; rintro e w' ⟨rfl, rfl⟩))
     have hg := bC
     have hf := dE
     refine aM 12 (by kernel_rfl) (by kernel_rfl) ?_
     simp only [List.take_succ_cons, List.take_zero, List.drop_succ_cons, List.drop_zero]
     repeat (go_big_quiet_step (fail))
     refine wpQuiet_nil ?_
     intro _ hw'
     obtain ⟨⟨dq, osq⟩, hw''⟩ := hw'
     subst hw''
     go_wp2_with fail
     go_ret
     have a1 := a.below (below_regrown w dq osq)
     refine ⟨rfl, ?_, (aF.ofBelow (below_regrown w dq osq)).trans (aG _ _ _ _)⟩
     have := a1.a5.s3 (tk (t.st && !aO x 0))
     first
     | (rw [hk]; exact this)
     | exact this
 . have hs : fV o = fR o := by unfold fV; rw [if_neg he]
   rw [hs, if_neg he]
   have hc : (if (some (⟨p, 0, none⟩ : Addr)) = none then 10 else fR o) = fR o := by rw [if_neg (by simp)]
   have hn : (fR o == 0) = false := by simpa using he
   have hn2 : (fR o != 0) = true := by simpa using he
   go_enter func281, ntmps281
   go_wp2_with fail
   refine (pG _ _ _ o0 o1 _ hc).mono ?_
   exact nL
theorem iM : (prog.info? 220).map (·.size) = some 8 := by kernel_rfl
def r8 (ld v : Int) (en re iq : Bool) (sc ph : Int) (st : Bool) : List Value := [.int .u32 ld, .int .u32 v, .bool en, .bool re, .bool iq, .int .u32 sc, .int .u32 ph, .bool st]
def rl (t : Tm) : List Value := r8 t.ld t.v t.en t.re t.iq t.sc t.ph t.st
theorem aHC (ld v : Int) (en re iq : Bool) (sc ph : Int) (st : Bool) : ∀ x ∈ r8 ld v en re iq sc ph st, x.oneCell' = true := by
 intro x h
 simp only [r8, List.mem_cons, List.not_mem_nil, or_false] at h
 rcases h with rfl | rfl | rfl | rfl | rfl | rfl | rfl | rfl <;> rfl
abbrev tM : TypeId := 220
def cX (w : World) (b : Nat) (t : Tm) : Prop := w.heap[b]? = some (.cells (rl t).toArray tM (0, 0))
section
variable {w w' : World} {b : Nat} {t : Tm}
theorem cX.lt (h : cX w b t) : b < w.heap.size := lt_of_block h
theorem cX.below (h : cX w b t) (hb : Below w.heap.size w w') : cX w' b t := aC hb h h.lt
theorem cX.off {S : Nat -> Prop} (h : cX w b t) (ho : aF S w w') (hs : ¬ S b) : cX w' b t := ho.at h hs
theorem cX.free (h : cX w b t) (j : Nat) : w.frozen? ⟨b, j, none⟩ = false := aK h j
theorem cX.c0 (h : cX w b t) : w.cell? ⟨b, 0, none⟩ = some (.int .u32 t.ld) := by rw [aA h 0]; rfl
theorem cX.c1 (h : cX w b t) : w.cell? ⟨b, 1, none⟩ = some (.int .u32 t.v) := by rw [aA h 1]; rfl
theorem cX.c2 (h : cX w b t) : w.cell? ⟨b, 2, none⟩ = some (.bool t.en) := by rw [aA h 2]; rfl
theorem cX.c3 (h : cX w b t) : w.cell? ⟨b, 3, none⟩ = some (.bool t.re) := by rw [aA h 3]; rfl
theorem cX.c4 (h : cX w b t) : w.cell? ⟨b, 4, none⟩ = some (.bool t.iq) := by rw [aA h 4]; rfl
theorem cX.c5 (h : cX w b t) : w.cell? ⟨b, 5, none⟩ = some (.int .u32 t.sc) := by rw [aA h 5]; rfl
theorem cX.c6 (h : cX w b t) : w.cell? ⟨b, 6, none⟩ = some (.int .u32 t.ph) := by rw [aA h 6]; rfl
theorem cX.c7 (h : cX w b t) : w.cell? ⟨b, 7, none⟩ = some (.bool t.st) := by rw [aA h 7]; rfl
theorem cX.set (h : cX w b t) (j : Nat) (x : Value) {s : Tm} (he : (rl t).set j x = rl s) : cX (w.setCell ⟨b, j, none⟩ x) b s := by
 unfold cX; rw [aR h, <- he]; simp
theorem cX.s0 (h : cX w b t) (x : Int) : cX (w.setCell ⟨b, 0, none⟩ (.int .u32 x)) b { t with ld := x } := h.set _ _ rfl
theorem cX.s1 (h : cX w b t) (x : Int) : cX (w.setCell ⟨b, 1, none⟩ (.int .u32 x)) b { t with v := x } := h.set _ _ rfl
theorem cX.s2 (h : cX w b t) (x : Bool) : cX (w.setCell ⟨b, 2, none⟩ (.bool x)) b { t with en := x } := h.set _ _ rfl
theorem cX.s3 (h : cX w b t) (x : Bool) : cX (w.setCell ⟨b, 3, none⟩ (.bool x)) b { t with re := x } := h.set _ _ rfl
theorem cX.s4 (h : cX w b t) (x : Bool) : cX (w.setCell ⟨b, 4, none⟩ (.bool x)) b { t with iq := x } := h.set _ _ rfl
theorem cX.s5 (h : cX w b t) (x : Int) : cX (w.setCell ⟨b, 5, none⟩ (.int .u32 x)) b { t with sc := x } := h.set _ _ rfl
theorem cX.s6 (h : cX w b t) (x : Int) : cX (w.setCell ⟨b, 6, none⟩ (.int .u32 x)) b { t with ph := x } := h.set _ _ rfl
theorem cX.s7 (h : cX w b t) (x : Bool) : cX (w.setCell ⟨b, 7, none⟩ (.bool x)) b { t with st := x } := h.set _ _ rfl
theorem cX.other (h : cX w b t) (k j : Nat) (x : Value) (hne : b ≠ k) : cX (w.setCell ⟨k, j, none⟩ x) b t := aV h k j x hne
theorem cX.row {old : Array Value} (h : w.heap[b]? = some (.cells old tM (0, 0))) (t : Tm) : cX (w.setRow b (rl t).toArray) b t := aY _ h
theorem cX.elseRow (h : cX w b t) (g : Nat) (cs : Array Value) (hne : b ≠ g) : cX (w.setRow g cs) b t := eQ g cs h hne
theorem cX.grown (h : cX w b t) : ∀ w', (∃ p : Regrown, w' = grow (redrawn w p.d) p.os) -> cX w' b t := bZ h
end
section
variable {ops : Array Oper} {rest : List Oper} {o : Oper} {a : Act} {w : World} {Q : Exit -> Act -> World -> Prop}
theorem eE (hgd : o.guard = none) (x : Operand) (ho : o.op = .load 220 x) {b : Nat} (hx : a.eval x = .pointer (some ⟨b, 0, none⟩)) {t : Tm} (hg : cX w b t)
 (h : wpList prog ops Q rest (a.put o.dst (.agg (rl t).toArray)) w) : wpList prog ops Q (o :: rest) a w :=
 aN hgd _ x ho b 0 hx _ (rl t) hg underlying220 rfl iM (aL _) h
theorem aMA (x : Operand) (ho : o.op = .load 220 x) (hw : Region.wanted o (yielded ops a.tmps) = true) {b : Nat} (hx : a.eval x = .pointer (some ⟨b, 0, none⟩)) {t : Tm} (hg : cX w b t)
 (h : wpList prog ops Q rest (a.put o.dst (.agg (rl t).toArray)) w) : wpList prog ops Q (o :: rest) a w :=
 dC _ x ho hw b 0 hx _ (rl t) hg underlying220 rfl iM (aL _) h
theorem fE (hgd : o.guard = none) (x y : Operand) (ho : o.op = .store 220 x y) {b : Nat} (hx : a.eval x = .pointer (some ⟨b, 0, none⟩)) {t : Tm} (hy : a.eval y = .agg (rl t).toArray) {t' : Tm} (hg : cX w b t')
 (h : wpList prog ops Q rest (a.put o.dst undef) (w.setRow b (rl t).toArray)) : wpList prog ops Q (o :: rest) a w := by
 refine aJ hgd _ x y ho b 0 hx (rl t) hy hg iM (by simp [rl, r8]) (aHC _ _ _ _ _ _ _ _) ?_
 rw [aW _ _ (by simp [rl, r8])]
 exact h
theorem aMf {C : World -> Prop} {K : Act -> Prop} (x : Operand) (ho : o.op = .load 220 x) {b : Nat} (hx : a.eval x = .pointer (some ⟨b, 0, none⟩)) {t : Tm} (hg : ∀ w, C w -> cX w b t)
 (h : K (a.put o.dst (.agg (rl t).toArray))) : o.quiet prog a C K :=
 bD _ x ho b 0 hx _ (rl t) (fun w hw => hg w hw) underlying220 rfl iM (aL _) h
end
theorem aBX {fn : Func} {p : Tmp} (h : fn.results = #[.cell p 220]) (tmps : Array Value) (w : World) {b : Nat} {t : Tm} (hp : tmps[p]? = some (.pointer (some ⟨b, 0, none⟩))) (hg : cX w b t) :
 (results fn tmps).run prog w = .ok (.agg (rl t).toArray) w :=
 aS h tmps w b 0 _ (rl t) hp hg underlying220 rfl iM (aL _)
theorem aKf {fn : Func} {p q : Tmp} (h : fn.results = #[.cell p 220, .tmp q]) (tmps : Array Value) (w : World) {b : Nat} {t : Tm} (y : Value) (hp : tmps[p]? = some (.pointer (some ⟨b, 0, none⟩))) (hq : tmps[q]? = some y) (hg : cX w b t) :
 (results fn tmps).run prog w = .ok (.tuple #[.agg (rl t).toArray, y]) w :=
 bE h tmps w b 0 _ (rl t) y hp hq hg underlying220 rfl iM (aL _)
def zM : Obj := .cells (rl tz).toArray tM (0, 0)
theorem lJ : Obj.cells #[.int .u32 0, .int .u32 0, .bool false, .bool false, .bool false, .int .u32 0, .int .u32 0, .bool false] 220 (0, 0) = zM := rfl
def oM (t : Tm) : Obj := .cells (rl t).toArray tM (0, 0)
theorem uY (b : Bool) (k : Int) (w : World) : Calls prog 225 #[.bool b, .int .u32 k] w fun e w' => e = .returned (.int .u32 (if b = true then k else 0)) /\ w = w' := by
 cases b
 all_goals
  go_enter func225, ntmps225
  go_wp2_with fail
  go_ret
  exact ⟨rfl, rfl⟩
theorem vY {P : Prop} (h : P := by
 go_enter func197, ntmps197
 go_upto_region 1 with (fail)
 rw [show Obj.cells (rl t).toArray 220 (0, 0) = oM t from rfl]
 generalize (w.alloc (oM t)) = W at *
 go_wp2_with fail
 go_ret
 exact ⟨bJ (by have := HE.out; omega), hB⟩
 ) : P := h
theorem aGg (t : Tm) (w : World) (h : t.ok) : Calls prog 197 #[.agg (rl t).toArray] w fun e w' => e = .returned (.int .u64 t.lef) /\ Below w.heap.size w w' := by
 have hB := aE (aH w) (oM t)
 have X : cX (w.alloc (oM t)) w.heap.size t := aD w (oM t)
 have hL := h.left
 obtain ⟨l0, l1, v0, v1, s0, s1, p0, p1⟩ := h
 unfold Tm.left lft at hL
 have he : Hid (t.en = true -> max t.v 1 * (t.sc + 1) - t.ph = t.lef) := Hd (fun he => by unfold Tm.lef Tm.left lft; rw [if_pos he])
 have x1 := X.c1
 have x2 := X.c2
 have x5 := X.c5
 have x6 := X.c6
 cases hen : t.en
 . rw [hen] at x2
   go_enter func197, ntmps197
   go_upto_region 1 with (fail)
   rw [show Obj.cells (rl t).toArray 220 (0, 0) = oM t from rfl]
   generalize (w.alloc (oM t)) = W at *
   go_wp2_with fail
   go_ret
   exact ⟨bJ (by unfold Tm.lef; rw [hen]; rfl), hB⟩
 . rw [hen] at x2
   have hm : (max t.v 1 - 1) * (t.sc + 1) = max t.v 1 * (t.sc + 1) - (t.sc + 1) := by rw [Int.sub_mul]; omega
   have hp := uO (a := max t.v 1) (b := max t.v 1) (u := t.sc + 1) (by omega) (by omega) (by omega)
   have hq : 0 <= (max t.v 1 - 1) * (t.sc + 1) /\ (max t.v 1 - 1) * (t.sc + 1) < 1099511627776 := by omega
   have hr : (max t.v 1 - 1) * (t.sc + 1) + t.sc + 1 - t.ph = max t.v 1 * (t.sc + 1) - t.ph := by omega
   have HE := Hd (hr.trans (he.out hen))
   by_cases hv : t.v = 0
   . rw [show max t.v 1 = 1 by omega] at HE
     rw [hv] at x1
     clear hm hp hq hr he hL
     simp only [Int.sub_self, Int.zero_mul, Int.zero_add] at HE
     exact vY
   . rw [show max t.v 1 = t.v by omega] at HE hq
     have hv2 : (t.v == 0) = false := by simpa using hv
     clear hm hp hr he hL
     exact vY
theorem aKW (f : Nat -> Bool) (k : Nat) (h : k < 32) : bits BinOp.or IntKind.u32 (ob f k) (un k) = ob f k + un k := by
 have h1 := gW f k (by omega)
 have h2 := lI k
 rw [aCr _ _ h1.1 h1.2 h2.1 h2.2, aDE k h]
 unfold ob
 rw [Int.toNat_natCast, Int.toNat_natCast, Nat.or_comm]
 have := Nat.two_pow_add_eq_or_of_lt (lE f k) 1
 rw [Nat.mul_one] at this
 rw [<- this]
 omega
theorem aGq (f g : Nat -> Bool) : ∀ k : Nat, (∀ i, i < k -> f i = g i) -> ob f k = ob g k := by
 intro k
 induction k with
 | zero => intro _; rfl
 | succ k ih =>
   intro h
   have h1 := ih fun i hi => h i (by omega)
   have h2 := h k (by omega)
   unfold ob at h1 ⊢
   unfold fK
   rw [h2]
   have h3 : fK f k = fK g k := by omega
   rw [h3]
def nvr : Int := 18446744073709551615
def iR (t : Nat -> Tm) (a b : Nat) (m i : Int) : Prop :=
 (i = -1 /\ m = nvr /\ ∀ k, a <= k -> k < b -> (t k).en = false) \/
 ∃ j : Nat, i = j /\ a <= j /\ j < b /\ (t j).en = true /\ m = (t j).left /\ ∀ k, a <= k -> k < b -> (t k).en = true -> m <= (t k).left /\ (k < j -> m < (t k).left)
theorem tL (t : Nat -> Tm) (a : Nat) : iR t a a nvr (-1) := .inl ⟨rfl, rfl, fun k h1 h2 => by omega⟩
theorem iR.bounds {t : Nat -> Tm} {a b : Nat} {m i : Int} (h : iR t a b m i) (ok : ∀ k, k < b -> (t k).ok) : 1 <= m /\ m <= nvr := by
 unfold nvr
 rcases h with ⟨_, rfl, _⟩ | ⟨j, _, _, hj, _, rfl, _⟩
 . unfold nvr; omega
 . have := (ok j hj).left; omega
theorem iR.place {t : Nat -> Tm} {a b : Nat} {m i : Int} (h : iR t a b m i) : -1 <= i /\ i < b \/ i = -1 := by
 rcases h with ⟨rfl, _⟩ | ⟨j, rfl, _, hj, _⟩
 . exact .inr rfl
 . exact .inl (by omega)
theorem iR.same {t : Nat -> Tm} {a b : Nat} {m i m' i' : Int} (h : iR t a b m i) (h' : iR t a b m' i') : m = m' /\ i = i' := by
 rcases h with ⟨rfl, rfl, h⟩ | ⟨j, rfl, a1, b1, e1, rfl, h⟩ <;> rcases h' with ⟨rfl, rfl, h'⟩ | ⟨j', rfl, a2, b2, e2, rfl, h'⟩
 . exact ⟨rfl, rfl⟩
 . rw [h j' a2 b2] at e2; cases e2
 . rw [h' j a1 b1] at e1; cases e1
 . have h1 := h j' a2 b2 e2
   have h2 := h' j a1 b1 e1
   have : j = j' := by
    rcases Nat.lt_trichotomy j j' with c | c | c
    . have := h2.2 c; omega
    . exact c
    . have := h1.2 c; omega
   subst this
   exact ⟨rfl, rfl⟩
theorem iR.congr {t s : Nat -> Tm} {a b : Nat} {m i : Int} (h : iR t a b m i) (hs : ∀ k, a <= k -> k < b -> t k = s k) : iR s a b m i := by
 rcases h with ⟨rfl, rfl, h⟩ | ⟨j, rfl, a1, b1, e1, rfl, h⟩
 . exact .inl ⟨rfl, rfl, fun k h1 h2 => by rw [<- hs k h1 h2]; exact h k h1 h2⟩
 . refine .inr ⟨j, rfl, a1, b1, by rw [<- hs j a1 b1]; exact e1, by rw [hs j a1 b1], fun k h1 h2 e => ?_⟩
   rw [<- hs k h1 h2] at e ⊢
   exact h k h1 h2 e
theorem aCg {t : Tm} (h : t.ok) : 1 <= t.lef /\ t.lef <= nvr := by
 have := h.left
 unfold Tm.lef nvr
 split <;> omega
theorem aEe {t : Tm} (h : t.ok) : nvr <= t.lef -> t.en = false := by
 intro hn
 have := h.left
 unfold Tm.lef nvr at hn
 cases he : t.en
 . rfl
 . rw [he, if_pos rfl] at hn; omega
theorem iR.skip {t : Nat -> Tm} {k : Nat} {m i : Int} (h : iR t 0 k m i) (ok : (t k).ok) (hl : m <= (t k).lef) : iR t 0 (k + 1) m i := by
 rcases h with ⟨rfl, rfl, h⟩ | ⟨j, rfl, a1, b1, e1, rfl, h⟩
 . refine .inl ⟨rfl, rfl, fun q h1 h2 => ?_⟩
   by_cases hq : q = k
   . subst hq; exact aEe ok hl
   . exact h q h1 (by omega)
 . refine .inr ⟨j, rfl, a1, by omega, e1, rfl, fun q h1 h2 e => ?_⟩
   by_cases hq : q = k
   . subst hq
     unfold Tm.lef at hl
     rw [if_pos e] at hl
     exact ⟨hl, fun hj => by omega⟩
   . exact h q h1 (by omega) e
theorem iR.take {t : Nat -> Tm} {k : Nat} {m i : Int} (h : iR t 0 k m i) (hok : ∀ q, q < k -> (t q).ok) (ok : (t k).ok) (hl : (t k).lef < m) : iR t 0 (k + 1) (t k).lef k := by
 have hm := (h.bounds hok).2
 have he : (t k).en = true := by
  cases he : (t k).en
  . unfold Tm.lef at hl
    rw [he] at hl
    unfold nvr at hm
    simp at hl
    omega
  . rfl
 have hlf : (t k).lef = (t k).left := by unfold Tm.lef; rw [if_pos he]
 rw [hlf] at hl ⊢
 refine .inr ⟨k, rfl, by omega, by omega, he, rfl, fun q h1 h2 e => ?_⟩
 by_cases hq : q = k
 . subst hq; exact ⟨Int.le_refl _, fun hj => by omega⟩
 . rcases h with ⟨rfl, rfl, h⟩ | ⟨j, rfl, a1, b1, e1, rfl, h⟩
   . rw [h q h1 (by omega)] at e; cases e
   . have := h q h1 (by omega) e
     exact ⟨by omega, fun _ => by omega⟩
theorem iR.keep {t : Nat -> Tm} {k n : Nat} {m i : Int} (h : iR t (k + 1) n m i) (ok : (t k).ok) (hl : ((t k).en = true -> m < (t k).left)) : iR t k n m i := by
 rcases h with ⟨rfl, rfl, h⟩ | ⟨j, rfl, a1, b1, e1, rfl, h⟩
 . refine .inl ⟨rfl, rfl, fun q h1 h2 => ?_⟩
   by_cases hq : q = k
   . subst hq
     cases he : (t q).en
     . rfl
     . have := hl he
       have := ok.left
       unfold nvr at *
       omega
   . exact h q (by omega) h2
 . refine .inr ⟨j, rfl, by omega, b1, e1, rfl, fun q h1 h2 e => ?_⟩
   by_cases hq : q = k
   . subst hq; have := hl e; exact ⟨by omega, fun _ => this⟩
   . exact h q (by omega) h2 e
theorem iR.put {t : Nat -> Tm} {k n : Nat} {m i : Int} (h : iR t (k + 1) n m i) (hk : k < n) (he : (t k).en = true) (hl : (t k).left <= m) : iR t k n (t k).left k := by
 refine .inr ⟨k, rfl, Nat.le_refl _, hk, he, rfl, fun q h1 h2 e => ?_⟩
 by_cases hq : q = k
 . subst hq; exact ⟨Int.le_refl _, fun hj => by omega⟩
 . rcases h with ⟨rfl, rfl, h⟩ | ⟨j, rfl, a1, b1, e1, rfl, h⟩
   . rw [h q (by omega) h2] at e; cases e
   . have := h q (by omega) h2 e
     exact ⟨by omega, fun hj => by omega⟩
theorem aEI (t : Nat -> Tm) : ∀ n : Nat, (∀ k, k < n -> (t k).ok) -> ∃ m i : Int, iR t 0 n m i := by
 intro n
 induction n with
 | zero => intro _; exact ⟨_, _, tL t 0⟩
 | succ n ih =>
   intro ok
   obtain ⟨m, i, h⟩ := ih fun k hk => ok k (by omega)
   by_cases hl : m <= (t n).lef
   . exact ⟨m, i, h.skip (ok n (by omega)) hl⟩
   . exact ⟨_, _, h.take (fun q hq => ok q (by omega)) (ok n (by omega)) (by omega)⟩
def oO (t : Nat -> Tm) (i : Nat) (s : Tm) : Nat -> Tm := fun k => if k = i then s else t k
theorem oH (t : Nat -> Tm) (i : Nat) (s : Tm) : oO t i s i = s := if_pos rfl
theorem oI (t : Nat -> Tm) {i k : Nat} (s : Tm) (h : k ≠ i) : oO t i s k = t k := if_neg h
def jT (n : Nat) (o : Int) : Int := if (o % 4 != 0) = true then 11 else if (n : Int) <= o / 32 then 10 else 0
end Go.Proofs.YtaohacadochldaaGreat.B
