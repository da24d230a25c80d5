/- A part of the proof of a law of layer 12: ae. -/
import Derived.Test.YtealhichdbimlaaGreatZNad
import Derived.Laws.StructEq
import Derived.ChangeKeysEq
set_option linter.unusedVariables false
set_option linter.unusedSimpArgs false
set_option maxHeartbeats 12800000
set_option maxRecDepth 100000
namespace Go.Proofs.YtealhichdbimlaaGreat.B
open Go.Proofs.Tryz
open Go.ChangeShapes Go.WideShapes Go.RowKit Go.Sort
def rI (xs ys : List Int) : Bool := xs == ys
theorem fJ {P : Program} (d : Nat) (e : TypeId) (k : IntKind) (he : P.underlying e = some (.int k)) (xs ys : List Int) (w : World) : ∀ is : List Nat, (∀ i ∈ is, i < xs.length /\ i < ys.length) ->
 (Op.eqItems (d + 1) e 1 (xs.map (Value.int k)).toArray (ys.map (Value.int k)).toArray is).run P w = .ok (is.all fun i => xs.getD i 0 == ys.getD i 0) w := by
 intro is
 induction is with
 | nil => intro _; simp [Op.eqItems]
 | cons i is ih =>
   intro h
   obtain ⟨hx, hy⟩ := h i (by simp)
   have px : (part e (xs.map (Value.int k)).toArray (i * 1)).run P w = .ok (.int k (xs.getD i 0)) w := by
    simp [part, isAgg, run_underlying he, List.getD, List.getElem?_eq_getElem hx]
   have py : (part e (ys.map (Value.int k)).toArray (i * 1)).run P w = .ok (.int k (ys.getD i 0)) w := by
    simp [part, isAgg, run_underlying he, List.getD, List.getElem?_eq_getElem hy]
   simp only [Op.eqItems, Sem.run_bind, px, py, run_equalIn_int w d e k k _ _ he, Result.andThen_ok, List.all_cons]
   cases hb : (xs.getD i 0 == ys.getD i 0)
   . simp
   . simp only [Bool.not_true, Bool.false_eq_true, if_false, Bool.true_and]
     exact ih fun j hj => h j (by simp [hj])
theorem jJ (xs ys : List Int) (h : xs.length = ys.length) : ((List.range xs.length).all fun i => xs.getD i 0 == ys.getD i 0) = rI xs ys := by
 unfold rI
 rw [Bool.eq_iff_iff, List.all_eq_true, beq_iff_eq]
 constructor
 . intro hh
   apply List.ext_getElem h
   intro i h1 h2
   have := hh i (by simp [h1])
   simpa [List.getD, List.getElem?_eq_getElem h1, List.getElem?_eq_getElem h2] using this
 . rintro rfl i _; simp
theorem eqW (a b c d e a' b' c' d' e' : Int) (w : World) :
 (Op.equalIn 10000 290 (.agg (w5 a b c d e).toArray) (.agg (w5 a' b' c' d' e').toArray)).run prog w = .ok (rI [a, b, c, d] [a', b', c', d'] && (e == e')) w := by
 have hi : (prog.info? 27).isSome = true := by kernel_rfl
 obtain ⟨i, hi⟩ := Option.isSome_iff_exists.1 hi
 have hc : prog.cellsOf 27 = 1 := by kernel_rfl
 have h := run_equalIn_array w 9998 (i := i) #[.int .u32 a, .int .u32 b, .int .u32 c, .int .u32 d] #[.int .u32 a', .int .u32 b', .int .u32 c', .int .u32 d'] underlying227 hi
 rw [hc] at h
 have g := fJ 9997 27 .u32 underlying27 [a, b, c, d] [a', b', c', d'] w (List.range 4) (by intro i hi; simpa using hi)
 have r := jJ [a, b, c, d] [a', b', c', d'] rfl
 have key := (h.trans g).trans (congrArg (fun b => Result.ok b w) r)
 rw [run_equalIn_struct w 9999 290 _ _ (by kernel_rfl) (by kernel_rfl)]
 simp only [Program.fieldsOf, underlying290]
 simp only [Op.eqFields]
 have pa : ∀ a b c d e : Int, (part 227 (w5 a b c d e).toArray 0).run prog w = .ok (.agg #[.int .u32 a, .int .u32 b, .int .u32 c, .int .u32 d]) w := fun a b c d e => by
  have hs : (sizeOf 227).run prog w = .ok 4 w := by kernel_rfl
  have ha : (isAgg 227).run prog w = .ok true w := by kernel_rfl
  simp [part, ha, hs, Sem.run_bind, w5]
 have pb : ∀ a b c d e : Int, (part 22 (w5 a b c d e).toArray 4).run prog w = .ok (.int .u64 e) w := fun a b c d e => by
  have ha : (isAgg 22).run prog w = .ok false w := by kernel_rfl
  simp [part, ha, Sem.run_bind, w5]
 rw [if_pos (by decide), if_pos (by decide)]
 simp only [Sem.run_bind, pa, pb, Result.andThen_ok, key, run_equalIn_int w 9998 22 .u64 .u64 e e' underlying22]
 cases rI [a, b, c, d] [a', b', c', d']
 . simp
 . have hq := run_equalIn_int w 9998 22 .u64 .u64 e e' underlying22
   rw [show 9998 + 1 = 9999 from rfl] at hq
   cases hx : e == e'
   . rw [hx] at hq; simp [pb, hq]
   . rw [hx] at hq; simp [pb, hq]
def eqT (s t : Tm) : Bool := rI [s.ld, s.v, eX s.en s.re s.iq s.sc, tk s.st] [t.ld, t.v, eX t.en t.re t.iq t.sc, tk t.st] && (s.ph == t.ph)
theorem aCC (s t : Tm) (w : World) : (Op.equalIn 10000 290 (.agg (wl s).toArray) (.agg (wl t).toArray)).run prog w = .ok (eqT s t) w := eqW _ _ _ _ _ _ _ _ _ _ w
theorem aBa {C : World -> Prop} {o : Oper} {a : Act} {K : Act -> Prop} (x y : Operand) (u : TypeId) (ho : o.op = .binOp .eql 290 x y u) {s t : Tm} (hx : a.eval x = .agg (wl s).toArray) (hy : a.eval y = .agg (wl t).toArray)
 (h : K (a.put o.dst (.bool (eqT s t)))) : o.quiet prog a C K :=
 ⟨_, fun w hw => by
  have hg : (eqGuard .eql 290 x y (.agg (wl s).toArray) (.agg (wl t).toArray)).run prog w = .ok () w := by
   have e : prog.eqGuardType prog.depth 290 = false := by kernel_rfl
   simp [eqGuard, Sem.run_bind, run_program, e]
  have hb : (binOp .eql 290 (.agg (wl s).toArray) (.agg (wl t).toArray)).run prog w = .ok (.bool (eqT s t)) w := by
   have e := aCC s t w
   simp only [binOp, Op.equal, Sem.run_bind, Op.maxDepth]
   rw [e]
   rfl
  unfold Oper.quietAt execOp
  simp only [ho, hx, hy, Sem.run_bind, hg, hb, Result.andThen_ok]
  exact ⟨rfl, rfl⟩, h⟩
theorem vF {t : Tm} (he : t.en = true) (h : eqT t.exp t = true) : t.exp = t := by
 unfold eqT rI at h
 simp only [Bool.and_eq_true, beq_iff_eq, List.cons.injEq, and_true] at h
 obtain ⟨⟨h1, h2, h3, h4⟩, h5⟩ := h
 have hen : t.exp.en = t.en := (vD h3).1
 have hst := aAQ h4
 unfold Tm.exp at h2 hen hst h5 ⊢
 by_cases c : (t.re && t.ld != 0) = true
 . rw [if_pos c] at h2 hst h5 ⊢
   show Tm.mk t.ld t.ld t.en t.re t.iq t.sc 0 true = t
   obtain ⟨ld, v, en, re, iq, sc, ph, st⟩ := t
   simp only at h2 hst h5
   subst h2 hst h5
   rfl
 . rw [if_neg c] at hen
   rw [he] at hen
   cases hen
def dM (w : World) (b : Nat) (T : TypeId) (t : Tm) : Prop := w.heap[b]? = some (.cells (wl t).toArray T (0, 0))
abbrev tC : TypeId := 292
section
variable {w w' : World} {b : Nat} {T : TypeId} {t : Tm}
theorem dM.a5 (h : dM w b T t) : A5 w b T t.ld t.v (eX t.en t.re t.iq t.sc) (tk t.st) t.ph := h
theorem dM.lt (h : dM w b T t) : b < w.heap.size := lt_of_block h
theorem dM.below (h : dM w b T t) (hb : Below w.heap.size w w') : dM w' b T t := aB hb h h.lt
theorem dM.off {S : Nat -> Prop} (h : dM w b T t) (ho : aE S w w') (hs : ¬ S b) : dM w' b T t := ho.at h hs
theorem dM.other (h : dM w b T t) (k j : Nat) (x : Value) (hne : b ≠ k) : dM (w.setCell ⟨k, j, none⟩ x) b T t := aJ h k j x hne
theorem dM.row {old : Array Value} (h : w.heap[b]? = some (.cells old T (0, 0))) (t : Tm) : dM (w.setRow b (wl t).toArray) b T t := cL _ h
theorem dM.elseRow (h : dM w b T t) (g : Nat) (cs : Array Value) (hne : b ≠ g) : dM (w.setRow g cs) b T t := dE g cs h hne
end
theorem kM (w : World) (p : Nat) (cs : Array Value) : aE (· = p) w (w.setRow p cs) := ⟨rfl, rfl, rfl, by simp, fun k _ hs => setRow_other w p k cs hs⟩
section
variable {ops : Array Oper} {rest : List Oper} {o : Oper} {a : Act} {w : World} {Q : Exit -> Act -> World -> Prop}
theorem lR (hgd : o.guard = none) (x : Operand) (ho : o.op = .load 290 x) {b : Nat} {T : TypeId} (hx : a.eval x = .pointer (some ⟨b, 0, none⟩)) {t : Tm} (hg : dM w b T t)
 (h : wpList prog ops Q rest (a.put o.dst (.agg (wl t).toArray)) w) : wpList prog ops Q (o :: rest) a w := hG hgd x ho hx hg.a5 h
theorem mY (x : Operand) (ho : o.op = .load 290 x) (hw : Region.wanted o (yielded ops a.tmps) = true) {b : Nat} {T : TypeId} (hx : a.eval x = .pointer (some ⟨b, 0, none⟩)) {t : Tm} (hg : dM w b T t)
 (h : wpList prog ops Q rest (a.put o.dst (.agg (wl t).toArray)) w) : wpList prog ops Q (o :: rest) a w := zO x ho hw hx hg.a5 h
theorem kU (hgd : o.guard = none) (x y : Operand) (ho : o.op = .store 290 x y) {b : Nat} {T : TypeId} (hx : a.eval x = .pointer (some ⟨b, 0, none⟩)) {t : Tm} (hy : a.eval y = .agg (wl t).toArray) {t' : Tm}
 (hg : dM w b T t') (h : wpList prog ops Q rest (a.put o.dst undef) (w.setRow b (wl t).toArray)) : wpList prog ops Q (o :: rest) a w := nL hgd x y ho hx hy hg.a5 h
theorem kQ {C : World -> Prop} {K : Act -> Prop} (x : Operand) (ho : o.op = .load 290 x) {b : Nat} {T : TypeId} (hx : a.eval x = .pointer (some ⟨b, 0, none⟩)) {t : Tm} (hg : ∀ w, C w -> dM w b T t)
 (h : K (a.put o.dst (.agg (wl t).toArray))) : o.quiet prog a C K := tJ x ho hx (fun w hw => (hg w hw).a5) h
end
theorem dM.grown {w : World} {b : Nat} {T : TypeId} {t : Tm} (h : dM w b T t) : ∀ w', (∃ p : Regrown, w' = grow (redrawn w p.d) p.os) -> dM w' b T t := bZ h
def tz : Tm := ⟨0, 0, false, false, false, 0, 0, false⟩
theorem oM : tz.ok := ⟨by decide, by decide, by decide, by decide, by decide, by decide, by decide, by decide⟩
theorem aCQ (w : World) : Calls prog 177 #[] w fun e w' => e = .returned (.pointer (some ⟨w.heap.size, 0, none⟩)) /\ w' = w.alloc (.cells (wl tz).toArray tC (0, 0)) := by
 go_enter func177, ntmps177
 exact aL
theorem aBQ (t : Tm) (p : Nat) (w : World) (h : t.ok) (a : dM w p tC t) :
 Calls prog 201 #[.pointer (some ⟨p, 0, none⟩)] w fun e w' => e = .returned (.bool t.en) /\ Below w.heap.size w w' := by
 go_enter func201, ntmps201
 go_wp2_with (refine mY (.tmp 8) rfl rfl rfl a ?_)
 refine (zQ t w h).mono ?_
 rintro e w1 ⟨rfl, hb⟩
 cases he : t.en
 all_goals
  go_wp2_with fail
  go_ret
  exact ⟨bI he.symm, hb⟩
theorem aBO (t : Tm) (p : Nat) (w : World) (h : t.ok) (a : dM w p tC t) :
 Calls prog 166 #[.pointer (some ⟨p, 0, none⟩)] w fun e w' => e = .returned (.bool (t.st && t.iq)) /\ Below w.heap.size w w' := by
 have x3 := a.a5.c3
 cases hs : t.st
 . rw [hs] at x3
   simp only [tk, cond_false] at x3
   go_enter func166, ntmps166
   go_wp2_with fail
   go_ret
   exact ⟨rfl, aV w⟩
 . rw [hs] at x3
   simp only [tk, cond_true] at x3
   go_enter func166, ntmps166
   go_wp2_with (refine mY (.tmp 17) rfl rfl rfl a ?_)
   refine (zR t w h).mono ?_
   rintro e w1 ⟨rfl, hb⟩
   cases he : t.iq
   all_goals
    go_wp2_with fail
    go_ret
    exact ⟨bI (by rw [he]; rfl), hb⟩
def Tm.lef (t : Tm) : Int := if t.en = true then t.left else 18446744073709551615
def fC (o : Int) : Int := if (o % 4 != 0) = true then 11 else if 16 <= o then 10 else 0
theorem pL {o : Int} (o0 : 0 <= o) (h : fC o = 0) : o = 0 \/ o = 4 \/ o = 8 \/ o = 12 := by
 unfold fC at h
 cases h4 : (o % 4 != 0)
 . rw [h4] at h; simp at h h4; omega
 . rw [h4] at h; simp at h
theorem sN (x : Option Addr) (o : Int) (w : World) (o0 : 0 <= o) (o1 : o < 4294967296) (e : Int) (he : (if x = none then 10 else fC o) = e) :
 Calls prog 227 #[.pointer x, .int .u32 o] w fun e' w' => e' = .returned (.int .i64 e) /\ w = w' := by
 cases x with
 | none =>
   rw [if_pos rfl] at he; subst he
   go_enter func227, ntmps227
   go_wp2_with fail
   go_ret
   exact ⟨rfl, rfl⟩
 | some x =>
   rw [if_neg (by simp)] at he
   unfold fC at he
   cases h4 : (o % 4 != 0)
   . rw [h4, if_neg (by simp)] at he
     by_cases h8 : 16 <= o
     all_goals
      first
      | (rw [if_pos h8] at he; subst he)
      | (rw [if_neg h8] at he; subst he)
      go_enter func227, ntmps227
      go_wp2_with fail
      go_ret
      exact ⟨rfl, rfl⟩
   . rw [h4, if_pos rfl] at he; subst he
     go_enter func227, ntmps227
     go_wp2_with fail
     go_ret
     exact ⟨rfl, rfl⟩
def Tm.val (t : Tm) (o : Int) : Int := if fC o = 0 then (if o = 0 then t.ld else if o = 4 then t.v else if o = 8 then eX t.en t.re t.iq t.sc else tk t.st) else 0
theorem cW {P : Prop} (h : P := by
 go_wp2_with fail
 go_ret2
 exact ⟨rfl, rfl⟩
 ) : P := h
theorem aBP (t : Tm) (o : Int) (p : Nat) (w : World) (h : t.ok) (a : dM w p tC t) (o0 : 0 <= o) (o1 : o < 4294967296) :
 Calls prog 203 #[.pointer (some ⟨p, 0, none⟩), .int .u32 o] w fun e w' => e = .returned (.tuple #[.int .u32 (t.val o), .int .i64 (fC o)]) /\ w = w' := by
 have x0 := a.a5.c0
 have x1 := a.a5.c1
 have x2 := a.a5.c2
 have x3 := a.a5.c3
 clear a
 by_cases he : fC o = 0
 . rcases pL o0 he with rfl | rfl | rfl | rfl
   all_goals
    go_enter func203, ntmps203
    go_wp2_with (first | (go_at_call 227; refine (sN _ _ _ (by omega) (by omega) 0 (by rfl)).mono ?_; rintro e w' ⟨rfl, rfl⟩))
    go_ret2
    exact ⟨rfl, rfl⟩
 . have hv : t.val o = 0 := by unfold Tm.val; rw [if_neg he]
   rw [hv]
   have hc : (if (some (⟨p, 0, none⟩ : Addr)) = none then 10 else fC o) = fC o := by rw [if_neg (by simp)]
   have hn : (fC o == 0) = false := by simpa using he
   have hn2 : (fC o != 0) = true := by simpa using he
   go_enter func203, ntmps203
   go_wp2_with fail
   refine (sN _ _ _ o0 o1 _ hc).mono ?_
   rintro e w' ⟨rfl, rfl⟩
   exact cW
theorem zS (t : Tm) (p : Nat) (w : World) (a : dM w p tC t) :
 Calls prog 279 #[.pointer (some ⟨p, 0, none⟩)] w fun e w' => e = .returned (.tuple #[]) /\ w' = w.setRow p (wl tz).toArray := by
 go_enter func279, ntmps279
 go_wp2_with (refine kU rfl (.tmp 7) (.tmp 5) rfl rfl (t := tz) rfl a ?_)
 go_end0
 exact ⟨rfl, rfl⟩
def Tm.sto (t : Tm) (o x : Int) : Tm := if o = 0 then { t with ld := x } else if o = 8 then t.ord x else if o = 12 then { t with st := t.st && !dZ x 0 } else t
theorem Tm.sto_ok {t : Tm} (h : t.ok) (o x : Int) (x0 : 0 <= x) (x1 : x < 4294967296) : (t.sto o x).ok := by
 unfold Tm.sto
 split
 . exact ⟨x0, x1, h.v0, h.v1, h.s0, h.s1, h.p0, h.p1⟩
 . split
   . exact Tm.ord_ok h x
   . split
     . exact ⟨h.l0, h.l1, h.v0, h.v1, h.s0, h.s1, h.p0, h.p1⟩
     . exact h
def aBR (o : Int) : Int := if fC o = 0 then (if o = 4 then 12 else 0) else fC o
def r8 (ld v : Int) (en re iq : Bool) (sc ph : Int) (st : Bool) : List Value := [.int .u32 ld, .int .u32 v, .bool en, .bool re, .bool iq, .int .u32 sc, .int .u32 ph, .bool st]
def rl (t : Tm) : List Value := r8 t.ld t.v t.en t.re t.iq t.sc t.ph t.st
abbrev tM : TypeId := 192
def cB (w : World) (b : Nat) (t : Tm) : Prop := w.heap[b]? = some (.cells (rl t).toArray tM (0, 0))
section
variable {w w' : World} {b : Nat} {t : Tm}
theorem cB.lt (h : cB w b t) : b < w.heap.size := lt_of_block h
theorem cB.below (h : cB w b t) (hb : Below w.heap.size w w') : cB w' b t := aB hb h h.lt
theorem cB.off {S : Nat -> Prop} (h : cB w b t) (ho : aE S w w') (hs : ¬ S b) : cB w' b t := ho.at h hs
theorem cB.free (h : cB w b t) (j : Nat) : w.frozen? ⟨b, j, none⟩ = false := aG h j
theorem cB.c0 (h : cB w b t) : w.cell? ⟨b, 0, none⟩ = some (.int .u32 t.ld) := by rw [aA h 0]; rfl
theorem cB.c1 (h : cB w b t) : w.cell? ⟨b, 1, none⟩ = some (.int .u32 t.v) := by rw [aA h 1]; rfl
theorem cB.c2 (h : cB w b t) : w.cell? ⟨b, 2, none⟩ = some (.bool t.en) := by rw [aA h 2]; rfl
theorem cB.c3 (h : cB w b t) : w.cell? ⟨b, 3, none⟩ = some (.bool t.re) := by rw [aA h 3]; rfl
theorem cB.c4 (h : cB w b t) : w.cell? ⟨b, 4, none⟩ = some (.bool t.iq) := by rw [aA h 4]; rfl
theorem cB.c5 (h : cB w b t) : w.cell? ⟨b, 5, none⟩ = some (.int .u32 t.sc) := by rw [aA h 5]; rfl
theorem cB.c6 (h : cB w b t) : w.cell? ⟨b, 6, none⟩ = some (.int .u32 t.ph) := by rw [aA h 6]; rfl
theorem cB.set (h : cB w b t) (j : Nat) (x : Value) {s : Tm} (he : (rl t).set j x = rl s) : cB (w.setCell ⟨b, j, none⟩ x) b s := by
 unfold cB; rw [aK h, <- he]; simp
theorem cB.s0 (h : cB w b t) (x : Int) : cB (w.setCell ⟨b, 0, none⟩ (.int .u32 x)) b { t with ld := x } := h.set _ _ rfl
theorem cB.s1 (h : cB w b t) (x : Int) : cB (w.setCell ⟨b, 1, none⟩ (.int .u32 x)) b { t with v := x } := h.set _ _ rfl
theorem cB.s2 (h : cB w b t) (x : Bool) : cB (w.setCell ⟨b, 2, none⟩ (.bool x)) b { t with en := x } := h.set _ _ rfl
theorem cB.s3 (h : cB w b t) (x : Bool) : cB (w.setCell ⟨b, 3, none⟩ (.bool x)) b { t with re := x } := h.set _ _ rfl
theorem cB.s4 (h : cB w b t) (x : Bool) : cB (w.setCell ⟨b, 4, none⟩ (.bool x)) b { t with iq := x } := h.set _ _ rfl
theorem cB.s5 (h : cB w b t) (x : Int) : cB (w.setCell ⟨b, 5, none⟩ (.int .u32 x)) b { t with sc := x } := h.set _ _ rfl
theorem cB.s6 (h : cB w b t) (x : Int) : cB (w.setCell ⟨b, 6, none⟩ (.int .u32 x)) b { t with ph := x } := h.set _ _ rfl
theorem cB.other (h : cB w b t) (k j : Nat) (x : Value) (hne : b ≠ k) : cB (w.setCell ⟨k, j, none⟩ x) b t := aJ h k j x hne
theorem cB.row {old : Array Value} (h : w.heap[b]? = some (.cells old tM (0, 0))) (t : Tm) : cB (w.setRow b (rl t).toArray) b t := cL _ h
theorem cB.elseRow (h : cB w b t) (g : Nat) (cs : Array Value) (hne : b ≠ g) : cB (w.setRow g cs) b t := dE g cs h hne
theorem cB.grown (h : cB w b t) : ∀ w', (∃ p : Regrown, w' = grow (redrawn w p.d) p.os) -> cB w' b t := bZ h
end
section
variable {ops : Array Oper} {rest : List Oper} {o : Oper} {a : Act} {w : World} {Q : Exit -> Act -> World -> Prop}
end
theorem aBV (f : Nat -> Bool) (k : Nat) (h : k < 32) : bits BinOp.or IntKind.u32 (ob f k) (un k) = ob f k + un k := by
 have h1 := eP f k (by omega)
 have h2 := jX k
 rw [sX _ _ h1.1 h1.2 h2.1 h2.2, uF k h]
 unfold ob
 rw [Int.toNat_natCast, Int.toNat_natCast, Nat.or_comm]
 have := Nat.two_pow_add_eq_or_of_lt (eQ f k) 1
 rw [Nat.mul_one] at this
 rw [<- this]
 omega
theorem sT (f g : Nat -> Bool) : ∀ k : Nat, (∀ i, i < k -> f i = g i) -> ob f k = ob g k := by
 intro k
 induction k with
 | zero => intro _; rfl
 | succ k ih =>
   intro h
   have h1 := ih fun i hi => h i (by omega)
   have h2 := h k (by omega)
   unfold ob at h1 ⊢
   unfold bN
   rw [h2]
   have h3 : bN f k = bN g k := by omega
   rw [h3]
def nvr : Int := 18446744073709551615
def fF (t : Nat -> Tm) (a b : Nat) (m i : Int) : Prop :=
 (i = -1 /\ m = nvr /\ ∀ k, a <= k -> k < b -> (t k).en = false) \/
 ∃ j : Nat, i = j /\ a <= j /\ j < b /\ (t j).en = true /\ m = (t j).left /\ ∀ k, a <= k -> k < b -> (t k).en = true -> m <= (t k).left /\ (k < j -> m < (t k).left)
theorem fF.bounds {t : Nat -> Tm} {a b : Nat} {m i : Int} (h : fF t a b m i) (ok : ∀ k, k < b -> (t k).ok) : 1 <= m /\ m <= nvr := by
 unfold nvr
 rcases h with ⟨_, rfl, _⟩ | ⟨j, _, _, hj, _, rfl, _⟩
 . unfold nvr; omega
 . have := (ok j hj).left; omega
theorem fF.congr {t s : Nat -> Tm} {a b : Nat} {m i : Int} (h : fF t a b m i) (hs : ∀ k, a <= k -> k < b -> t k = s k) : fF s a b m i := by
 rcases h with ⟨rfl, rfl, h⟩ | ⟨j, rfl, a1, b1, e1, rfl, h⟩
 . exact .inl ⟨rfl, rfl, fun k h1 h2 => by rw [<- hs k h1 h2]; exact h k h1 h2⟩
 . refine .inr ⟨j, rfl, a1, b1, by rw [<- hs j a1 b1]; exact e1, by rw [hs j a1 b1], fun k h1 h2 e => ?_⟩
   rw [<- hs k h1 h2] at e ⊢
   exact h k h1 h2 e
theorem fF.take {t : Nat -> Tm} {k : Nat} {m i : Int} (h : fF t 0 k m i) (hok : ∀ q, q < k -> (t q).ok) (ok : (t k).ok) (hl : (t k).lef < m) : fF t 0 (k + 1) (t k).lef k := by
 have hm := (h.bounds hok).2
 have he : (t k).en = true := by
  cases he : (t k).en
  . unfold Tm.lef at hl
    rw [he] at hl
    unfold nvr at hm
    simp at hl
    omega
  . rfl
 have hlf : (t k).lef = (t k).left := by unfold Tm.lef; rw [if_pos he]
 rw [hlf] at hl ⊢
 refine .inr ⟨k, rfl, by omega, by omega, he, rfl, fun q h1 h2 e => ?_⟩
 by_cases hq : q = k
 . subst hq; exact ⟨Int.le_refl _, fun hj => by omega⟩
 . rcases h with ⟨rfl, rfl, h⟩ | ⟨j, rfl, a1, b1, e1, rfl, h⟩
   . rw [h q h1 (by omega)] at e; cases e
   . have := h q h1 (by omega) e
     exact ⟨by omega, fun _ => by omega⟩
theorem fF.keep {t : Nat -> Tm} {k n : Nat} {m i : Int} (h : fF t (k + 1) n m i) (ok : (t k).ok) (hl : ((t k).en = true -> m < (t k).left)) : fF t k n m i := by
 rcases h with ⟨rfl, rfl, h⟩ | ⟨j, rfl, a1, b1, e1, rfl, h⟩
 . refine .inl ⟨rfl, rfl, fun q h1 h2 => ?_⟩
   by_cases hq : q = k
   . subst hq
     cases he : (t q).en
     . rfl
     . have := hl he
       have := ok.left
       unfold nvr at *
       omega
   . exact h q (by omega) h2
 . refine .inr ⟨j, rfl, by omega, b1, e1, rfl, fun q h1 h2 e => ?_⟩
   by_cases hq : q = k
   . subst hq; have := hl e; exact ⟨by omega, fun _ => this⟩
   . exact h q (by omega) h2 e
theorem fF.put {t : Nat -> Tm} {k n : Nat} {m i : Int} (h : fF t (k + 1) n m i) (hk : k < n) (he : (t k).en = true) (hl : (t k).left <= m) : fF t k n (t k).left k := by
 refine .inr ⟨k, rfl, Nat.le_refl _, hk, he, rfl, fun q h1 h2 e => ?_⟩
 by_cases hq : q = k
 . subst hq; exact ⟨Int.le_refl _, fun hj => by omega⟩
 . rcases h with ⟨rfl, rfl, h⟩ | ⟨j, rfl, a1, b1, e1, rfl, h⟩
   . rw [h q (by omega) h2] at e; cases e
   . have := h q (by omega) h2 e
     exact ⟨by omega, fun hj => by omega⟩
def nN (t : Nat -> Tm) (i : Nat) (s : Tm) : Nat -> Tm := fun k => if k = i then s else t k
theorem kW (t : Nat -> Tm) (i : Nat) (s : Tm) : nN t i s i = s := if_pos rfl
theorem kX (t : Nat -> Tm) {i k : Nat} (s : Tm) (h : k ≠ i) : nN t i s k = t k := if_neg h
def eY (n : Nat) (o : Int) : Int := if (o % 4 != 0) = true then 11 else if (n : Int) <= o / 32 then 10 else 0
abbrev tBk : TypeId := 259
abbrev tRm : TypeId := 302
def eB (k : Nat) : Value := .pointer (some ⟨k, 0, none⟩)
def rm (n : Nat) (q : Nat -> Nat) : List Value := (List.range 8).map fun i => if i < n then eB (q i) else .pointer none
theorem kR (n : Nat) (q : Nat -> Nat) : (rm n q).length = 8 := by simp [rm]
theorem tO (n : Nat) (q : Nat -> Nat) (i : Nat) (h : i < n) (h8 : n <= 8) : (rm n q)[i]? = some (eB (q i)) := by simp [rm, show i < 8 by omega, h]
theorem aAJ (n : Nat) (q : Nat -> Nat) (r : Nat) (h : n < 8) : (rm n q).set n (eB r) = rm (n + 1) (fun i => if i = n then r else q i) := by
 apply List.ext_getElem?
 intro i
 rw [List.getElem?_set]
 by_cases e : n = i
 . subst e
   rw [if_pos rfl, if_pos (by rw [kR]; exact h), tO _ _ _ (by omega) (by omega)]
   simp
 . rw [if_neg e]
   by_cases h8 : i < 8
   . unfold rm
     simp only [List.getElem?_map, List.getElem?_range h8, Option.map_some]
     by_cases hi : i < n
     . rw [if_pos hi, if_pos (by omega), if_neg (fun x => e x.symm)]
     . rw [if_neg hi, if_neg (by omega)]
   . rw [List.getElem?_eq_none (by rw [kR]; omega), List.getElem?_eq_none (by rw [kR]; omega)]
structure cH (w : World) (g n : Nat) (q : Nat -> Nat) (t : Nat -> Tm) : Prop where
 room : w.heap[g]? = some (.cells (rm n q).toArray tRm (0, 0))
 tms : ∀ i, i < n -> dM w (q i) tC (t i)
 ok : ∀ i, i < n -> (t i).ok
 one : ∀ i j, i < n -> j < n -> q i = q j -> i = j
 n8 : n <= 8
structure bG (w : World) (p g n : Nat) (q : Nat -> Nat) (t : Nat -> Tm) : Prop where
 cell : w.heap[p]? = some (.cells #[.slice (some ⟨g, 0, none⟩) n n] tBk (0, 0))
 rm : cH w g n q t
def own (n : Nat) (q : Nat -> Nat) (k : Nat) : Prop := ∃ i, i < n /\ k = q i
section
variable {w w' : World} {p g n : Nat} {q : Nat -> Nat} {t s : Nat -> Tm}
theorem cH.lt (h : cH w g n q t) : g < w.heap.size := lt_of_block h.room
theorem cH.ltq (h : cH w g n q t) {i : Nat} (hi : i < n) : q i < w.heap.size := (h.tms i hi).lt
theorem cH.gne (h : cH w g n q t) {i : Nat} (hi : i < n) : q i ≠ g := aC (h.tms i hi) h.room rfl
theorem cH.below (h : cH w g n q t) (hb : Below w.heap.size w w') : cH w' g n q t :=
 ⟨aB hb h.room h.lt, fun i hi => (h.tms i hi).below hb, h.ok, h.one, h.n8⟩
theorem cH.off {S : Nat -> Prop} (h : cH w g n q t) (ho : aE S w w') (hg : ¬ S g) (hq : ∀ i, i < n -> ¬ S (q i)) : cH w' g n q t :=
 ⟨ho.at h.room hg, fun i hi => (h.tms i hi).off ho (hq i hi), h.ok, h.one, h.n8⟩
theorem cH.congr (h : cH w g n q t) (hs : ∀ i, i < n -> t i = s i) : cH w g n q s :=
 ⟨h.room, fun i hi => by rw [<- hs i hi]; exact h.tms i hi, fun i hi => by rw [<- hs i hi]; exact h.ok i hi, h.one, h.n8⟩
theorem cH.turn (h : cH w g n q t) {i : Nat} {x : Tm} (hi : i < n) (a : dM w' (q i) tC x) (ox : x.ok) (ho : aE (· = q i) w w') : cH w' g n q (nN t i x) :=
 ⟨ho.at h.room (fun e => h.gne hi e.symm), fun k hk => by
  by_cases e : k = i
  . subst e; rw [kW]; exact a
  . rw [kX _ _ e]; exact (h.tms k hk).off ho (fun e2 => e (h.one k i hk hi e2)), fun k hk => by
  by_cases e : k = i
  . subst e; rw [kW]; exact ox
  . rw [kX _ _ e]; exact h.ok k hk, h.one, h.n8⟩
theorem cH.cell (h : cH w g n q t) {i : Nat} (hi : i < n) : w.cell? ⟨g, i, none⟩ = some (.pointer (some ⟨q i, 0, none⟩)) := by
 rw [aA h.room i]
 simpa [eB] using tO n q i hi h.n8
theorem bG.ltp (h : bG w p g n q t) : p < w.heap.size := lt_of_block h.cell
theorem bG.c0 (h : bG w p g n q t) : w.cell? ⟨p, 0, none⟩ = some (.slice (some ⟨g, 0, none⟩) n n) := by rw [aA h.cell 0]; rfl
theorem bG.pne (h : bG w p g n q t) {i : Nat} (hi : i < n) : q i ≠ p := aC (h.rm.tms i hi) h.cell rfl
theorem bG.below (h : bG w p g n q t) (hb : Below w.heap.size w w') : bG w' p g n q t := ⟨aB hb h.cell h.ltp, h.rm.below hb⟩
theorem bG.off {S : Nat -> Prop} (h : bG w p g n q t) (ho : aE S w w') (hp : ¬ S p) (hg : ¬ S g) (hq : ∀ i, i < n -> ¬ S (q i)) : bG w' p g n q t := ⟨ho.at h.cell hp, h.rm.off ho hg hq⟩
theorem bG.congr (h : bG w p g n q t) (hs : ∀ i, i < n -> t i = s i) : bG w p g n q s := ⟨h.cell, h.rm.congr hs⟩
theorem bG.turn (h : bG w p g n q t) {i : Nat} {x : Tm} (hi : i < n) (a : dM w' (q i) tC x) (ox : x.ok) (ho : aE (· = q i) w w') : bG w' p g n q (nN t i x) :=
 ⟨ho.at h.cell (fun e => h.pne hi e.symm), h.rm.turn hi a ox ho⟩
theorem bG.get (h : bG w p g n q t) {i : Nat} (hi : i < n) : w.cell? ⟨g, i, none⟩ = some (.pointer (some ⟨q i, 0, none⟩)) := h.rm.cell hi
theorem bG.free (h : bG w p g n q t) (j : Nat) : w.frozen? ⟨g, j, none⟩ = false := aG h.rm.room j
end
theorem aE.own {n : Nat} {q : Nat -> Nat} {i : Nat} (hi : i < n) {w w' : World} (h : aE (· = q i) w w') : aE (own n q) w w' := h.mono fun k _ e => ⟨i, hi, e⟩
theorem aCd : Obj.cells #[.int .u32 0, .int .u32 0, .int .u32 0, .int .u32 0, .int .u64 0] 290 (0, 0) = .cells (wl tz).toArray 290 (0, 0) := rfl
theorem aBS (t : Tm) (n : Int) (p : Nat) (w : World) (h : t.ok) (a : dM w p tC t) (n0 : 0 <= n) (n1 : n < 18446744073709551616) :
 Calls prog 281 #[.pointer (some ⟨p, 0, none⟩), .int .u64 n] w fun e w' => e = .returned (.tuple #[]) /\ dM w' p tC (t.tick n) /\ aE (· = p) w w' := by
 obtain ⟨R, hR⟩ : ∃ R, t.tick n = R := ⟨_, rfl⟩
 rw [hR]
 have HR := Hd hR
 clear hR
 go_enter func281, ntmps281
 go_wp2_with fail
 go_loopw [1] (fun x wr => ∃ (m : Int) (s : Tm), x = .int .u64 m /\ 0 <= m /\ m < 18446744073709551616 /\ s.ok /\ dM wr p tC s /\ aE (· = p) w wr /\ Hid (s.tick m = R)) (fun x wr => (intOf x).toNat)
 case atStart => exact ⟨n, t, rfl, n0, n1, h, a, aE.refl _ _, HR⟩
 case round =>
  clear a h HR n0 n1
  obtain ⟨m, s, rfl, m0, m1, h, a, ho, HR⟩ := hrel
  have hL := h.left
  have RN := Hd (fun w a => aBQ s p w h a)
  cases hen : s.en
  . rw [hen] at RN
    go_wp2_with fail
    refine (RN.out _ a).mono ?_
    rintro e w1 ⟨rfl, hb⟩
    have a1 := a.below hb
    have ho1 := ho.trans (aE.ofBelow hb)
    clear a hb ho
    go_wp2_with fail
    refine (RN.out _ a1).mono ?_
    rintro e w2 ⟨rfl, hb⟩
    have a2 := a1.below hb
    have ho2 := ho1.trans (aE.ofBelow hb)
    clear a1 hb ho1
    go_wp2_with fail
    go_end0
    refine ⟨rfl, ?_, ho2⟩
    rw [<- HR.out, Tm.tick_off hen]; exact a2
  . rw [hen] at RN
    have LF := Hd (fun w => aBN s w h)
    go_wp2_with fail
    refine (RN.out _ a).mono ?_
    rintro e w1 ⟨rfl, hb⟩
    have a1 := a.below hb
    have ho1 := ho.trans (aE.ofBelow hb)
    clear a hb ho
    go_wp2_with (refine mY (.tmp 11) rfl rfl rfl a1 ?_)
    refine (LF.out _).mono ?_
    rintro e w2 ⟨rfl, hb⟩
    have a := a1.below hb
    have ho := ho1.trans (aE.ofBelow hb)
    clear a1 hb ho1
    by_cases hle : s.left <= m
    . go_wp2_with (refine lR rfl (.tmp 19) rfl rfl a ?_)
      refine (LF.out _).mono ?_
      rintro e w1 ⟨rfl, hb⟩
      have a1 := a.below hb
      have ho1 := ho.trans (aE.ofBelow hb)
      clear a hb ho
      have HE := Hd (show s.exp.tick (m - s.left) = R by rw [<- Tm.tick_ge h hen hle]; exact HR.out)
      clear HR LF RN
      have zq : dM (w1.alloc (.cells (wl tz).toArray 290 (0, 0))) w1.heap.size 290 tz := aD w1 (.cells (wl tz).toArray 290 (0, 0))
      have hpq : p ≠ w1.heap.size := by have := a1.lt; omega
      have aP := (a1.below (aO (aV w1) (.cells (wl tz).toArray 290 (0, 0)))).elseRow w1.heap.size (wl s).toArray hpq
      have aQ := dM.row zq s
      have hq0 : w.heap.size <= w1.heap.size := ho1.size
      have hoP : aE (· = p) w ((w1.alloc (.cells (wl tz).toArray 290 (0, 0))).setRow w1.heap.size (wl s).toArray) :=
       ho1.trans (aE.ofBelow (aR (aO (aV w1) _) _ (Nat.le_refl _)))
      go_upto_region 3 with (first | (refine lR rfl (.tmp 25) rfl rfl a1 ?_) | (refine kU rfl (.tmp 4) (.tmp 26) rfl rfl rfl zq ?_))
      rw [aCd]
      clear a1 zq ho1
      generalize ((w1.alloc (.cells (wl tz).toArray 290 (0, 0))).setRow w1.heap.size (wl s).toArray) = W2 at *
      generalize w1.heap.size = q at *
      go_wp2_with (refine lR rfl (.tmp 30) rfl rfl aP ?_)
      refine (aCO s _ h).mono ?_
      rintro e W3 ⟨rfl, hb⟩
      have aP1 := aP.below hb
      have aQ1 := aQ.below hb
      have ho1 := hoP.trans (aE.ofBelow hb)
      clear aP aQ hoP hb
      have aP := dM.row aP1 s.exp
      have aQ := aQ1.elseRow p (wl s.exp).toArray (fun e => hpq e.symm)
      have ho := ho1.trans (kM W3 p (wl s.exp).toArray)
      go_upto_region 4 with (refine kU rfl (.tmp 34) (.tmp 32) rfl rfl rfl aP1 ?_)
      clear aP1 aQ1 ho1
      generalize W3.setRow p (wl s.exp).toArray = W4 at *
      have hE := Tm.exp_ok h
      have hEL := hE.left
      cases hq : eqT s.exp s
      . go_simp
        refine wp_region_quiet_below (by kernel_rfl) (by kernel_rfl) ?_
        repeat (first
         | go_big_quiet_skip
         | (go_big_quiet_want; first
             | (refine kQ (.tmp 37) rfl rfl aP.grown ?_; go_simp; go_big_quiet_on)
             | (refine kQ (.tmp 4) rfl rfl aQ.grown ?_; go_simp; go_big_quiet_on)
             | (refine aBa (.tmp 38) (.tmp 39) _ rfl rfl rfl ?_; go_simp; go_big_quiet_on)
             | (go_big_quiet_op; first | go_big_quiet_on)))
        refine wpQuiet_nil ?_
        intro _ hw'
        obtain ⟨⟨dq, osq⟩, hw''⟩ := hw'
        subst hw''
        have hbr := below_regrown W4 dq osq
        go_wp2_with fail
        go_roundw
        case rel => exact ⟨m - s.left, s.exp, rfl, by omega, by omega, hE, aP.below hbr, ho.trans (aE.ofBelow hbr), HE⟩
        case measure => simp [intOf]; omega
      . have hs := vF hen hq
        have hm := cJ (a := m - s.left) (u := s.exp.left) (by omega)
        have hm2 : (m - s.left) % s.exp.left <= m - s.left := by
         by_cases c : m - s.left < s.exp.left
         . rw [Int.emod_eq_of_lt (by omega) c]; omega
         . omega
        have HE2 := Hd (show s.exp.tick ((m - s.left) % s.exp.left) = R by rw [<- HE.out]; exact (Tm.tick_mod hE (by rw [hs]; exact hen) (by rw [hs]; exact hs) _ (by omega)).symm)
        have LF := Hd (fun w => aBN s.exp w hE)
        clear hs
        go_simp
        refine wp_region_quiet_below (by kernel_rfl) (by kernel_rfl) ?_
        repeat (first
         | go_big_quiet_skip
         | (go_big_quiet_want; first
             | (refine kQ (.tmp 37) rfl rfl aP.grown ?_; go_simp; go_big_quiet_on)
             | (refine kQ (.tmp 4) rfl rfl aQ.grown ?_; go_simp; go_big_quiet_on)
             | (refine aBa (.tmp 38) (.tmp 39) _ rfl rfl rfl ?_; go_simp; go_big_quiet_on)
             | (go_big_quiet_op; first | go_big_quiet_on)))
        refine wpQuiet_nil ?_
        intro _ hw'
        obtain ⟨⟨dq, osq⟩, hw''⟩ := hw'
        subst hw''
        have hbr := below_regrown W4 dq osq
        have a1 := aP.below hbr
        have ho1 := ho.trans (aE.ofBelow hbr)
        clear aP aQ ho hbr HE
        go_wp2_with (refine lR rfl (.tmp 44) rfl rfl a1 ?_)
        refine (LF.out _).mono ?_
        rintro e W5 ⟨rfl, hb⟩
        have a := a1.below hb
        have ho := ho1.trans (aE.ofBelow hb)
        clear a1 ho1 hb
        go_wp2_with fail
        go_roundw
        case rel => exact ⟨(m - s.left) % s.exp.left, s.exp, rfl, hm.1, by omega, hE, a, ho, HE2⟩
        case measure => simp [intOf]; omega
    . go_wp2_with fail
      refine (RN.out _ a).mono ?_
      rintro e w1 ⟨rfl, hb⟩
      have a1 := a.below hb
      have ho1 := ho.trans (aE.ofBelow hb)
      clear a hb ho
      go_wp2_with (refine lR rfl (.tmp 53) rfl rfl a1 ?_)
      refine (aCP s m _ h m0 (by omega)).mono ?_
      rintro e w2 ⟨rfl, hb⟩
      have a := a1.below hb
      have ho := ho1.trans (aE.ofBelow hb)
      clear a1 hb ho1
      go_wp2_with (refine kU rfl (.tmp 58) (.tmp 56) rfl rfl rfl a ?_)
      go_end0
      refine ⟨rfl, ?_, ho.trans (kM _ _ _)⟩
      rw [<- HR.out, Tm.tick_lt hen (by omega)]; exact dM.row a _
end Go.Proofs.YtealhichdbimlaaGreat.B
