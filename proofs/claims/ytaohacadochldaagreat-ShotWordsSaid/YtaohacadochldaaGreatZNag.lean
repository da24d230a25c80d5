/- A part of the proof of a law of layer 12: ag. -/
import Derived.Test.YtaohacadochldaaGreatZNaf
set_option linter.unusedVariables false
set_option linter.unusedSimpArgs false
set_option maxHeartbeats 12800000
set_option maxRecDepth 100000
namespace Go.Proofs.YtaohacadochldaaGreat.B
open Go.Proofs.Tryz
open Go.ChangeShapes Go.WideShapes Go.RowKit Go.Sort
structure Wd where
 en : Bool
 lk : Bool
 ar : Bool
 cl : Int
 tot : Int
 si : Int
 fa : Int
structure Wd.ok (t : Wd) : Prop where
 c0 : 0 <= t.cl
 c1 : t.cl < 4294967296
 t0 : 0 <= t.tot
 t1 : t.tot < 4294967296
 s0 : 0 <= t.si
 s1 : t.si <= t.tot
 run : t.en = true -> t.fa = 0 -> t.si < t.tot
 win : t.en = true -> t.cl < t.tot
 fa : t.fa = 0 \/ t.fa = 2 \/ t.fa = 4 \/ t.fa = 8
 idle : t.en = false -> t.fa = 0 /\ t.si = 0 /\ t.ar = false
def wz : Wd := ⟨false, false, false, 0, 0, 0, 0⟩
theorem aAu : wz.ok := ⟨by decide, by decide, by decide, by decide, by decide, by decide, by decide, by decide, .inl rfl, fun _ => ⟨rfl, rfl, rfl⟩⟩
def Wd.left (t : Wd) : Int := if t.en = true /\ t.fa = 0 then t.tot - t.si else 18446744073709551615
def Wd.tick (t : Wd) (n : Int) : Wd := if t.en = true /\ t.fa = 0 then (if t.tot <= t.si + n then { t with si := t.tot, fa := 2 } else { t with si := t.si + n }) else t
def Wd.ran (t : Wd) (n : Int) : Int := if t.fa ≠ 0 then 0 else if t.en = true then (if t.tot <= t.si + n then t.tot - t.si else n) else n
theorem Wd.tick_ok {t : Wd} (h : t.ok) {n : Int} (n0 : 0 <= n) : (t.tick n).ok := by
 obtain ⟨c0, c1, t0, t1, s0, s1, run, win, fa, idle⟩ := h
 unfold Wd.tick
 split
 . rename_i he
   split
   . exact ⟨c0, c1, t0, t1, t0, Int.le_refl _, fun _ h => absurd h (show ¬ (2 : Int) = 0 by decide), win, .inr (.inl rfl), fun h => absurd (he.1.symm.trans h) (by decide)⟩
   . exact ⟨c0, c1, t0, t1, by show 0 <= t.si + n; omega, by show t.si + n <= t.tot; omega, fun _ _ => by show t.si + n < t.tot; omega, win, fa, fun h => absurd (he.1.symm.trans h) (by decide)⟩
 . exact ⟨c0, c1, t0, t1, s0, s1, run, win, fa, idle⟩
def dD (o : Int) : Int := if o % 4 ≠ 0 then 11 else if o <= 16 then 0 else 10
def kH (o : Int) : Int := if o = 16 then 12 else dD o
def Wd.val (t : Wd) (o : Int) : Int := if o = 0 then tk t.en + 2 * tk t.lk else if o = 4 then t.cl else if o = 8 then t.tot else if o = 16 then t.si else 0
def Wd.ctlTo (t : Wd) (v : Int) : Wd := if t.en = false /\ v % 2 = 1 /\ t.cl < t.tot then { t with en := true, si := 0, ar := false } else if t.en = true /\ v % 2 = 0 then { t with en := false, si := 0, ar := false } else t
def Wd.ctlPut (t : Wd) (v : Int) : Wd := if t.lk = true then t else { t.ctlTo v with lk := (v / 2 % 2 == 1) }
def Wd.key (t : Wd) (v : Int) : Wd :=
 if t.en = false then t else if v = 23130 then { t with ar := true } else if v = 42405 /\ t.ar = true then (if t.si < t.cl then { t with fa := 4 } else { t with si := 0, ar := false }) else if t.si < t.cl then { t with fa := 8 } else { t with ar := false }
def Wd.sto (t : Wd) (o v : Int) : Wd :=
 if t.fa ≠ 0 then t else if o = 0 then t.ctlPut v else if o = 4 then (if t.lk = true \/ t.en = true then t else { t with cl := v }) else if o = 8 then (if t.lk = true \/ t.en = true then t else { t with tot := v }) else if o = 12 then t.key v else t
theorem Wd.sto_ok {t : Wd} (h : t.ok) {o v : Int} (v0 : 0 <= v) (v1 : v < 4294967296) : (t.sto o v).ok := by
 unfold Wd.sto
 split
 . exact h
 rename_i hf
 have hf0 : t.fa = 0 := by simpa using hf
 obtain ⟨c0, c1, t0, t1, s0, s1, run, win, fa, idle⟩ := h
 have same : t.ok := ⟨c0, c1, t0, t1, s0, s1, run, win, fa, idle⟩
 split
 . unfold Wd.ctlPut
   split
   . exact same
   . have hc : (t.ctlTo v).ok := by
      unfold Wd.ctlTo
      split
      . rename_i hx
        exact ⟨c0, c1, t0, t1, Int.le_refl _, t0, fun _ _ => by show 0 < t.tot; omega, fun _ => hx.2.2, .inl hf0, fun h => absurd h (by simp)⟩
      . split
        . exact ⟨c0, c1, t0, t1, Int.le_refl _, t0, fun h => absurd h (by simp), fun h => absurd h (by simp), .inl hf0, fun _ => ⟨hf0, rfl, rfl⟩⟩
        . exact same
     obtain ⟨c0, c1, t0, t1, s0, s1, run, win, fa, idle⟩ := hc
     exact ⟨c0, c1, t0, t1, s0, s1, run, win, fa, idle⟩
 split
 . split
   . exact same
   . rename_i hx
     have he : t.en = false := by cases h : t.en <;> simp_all
     obtain ⟨_, hsi, har⟩ := idle he
     exact ⟨v0, v1, t0, t1, s0, s1, run, fun h => absurd (h.symm.trans he) (by decide), fa, idle⟩
 split
 . split
   . exact same
   . rename_i hx
     have he : t.en = false := by cases h : t.en <;> simp_all
     obtain ⟨_, hsi, har⟩ := idle he
     exact ⟨c0, c1, v0, v1, s0, by show t.si <= v; omega, fun h => absurd (h.symm.trans he) (by decide), fun h => absurd (h.symm.trans he) (by decide), fa, idle⟩
 split
 . unfold Wd.key
   split
   . exact same
   rename_i hen
   have he : t.en = true := by cases h : t.en <;> simp_all
   have nid : t.en = false -> False := fun h => absurd (he.symm.trans h) (by decide)
   have hw := win he
   split
   . exact ⟨c0, c1, t0, t1, s0, s1, run, win, fa, fun h => (nid h).elim⟩
   split
   . split
     . exact ⟨c0, c1, t0, t1, s0, s1, fun _ h => absurd h (show ¬ (4 : Int) = 0 by decide), win, .inr (.inr (.inl rfl)), fun h => (nid h).elim⟩
     . exact ⟨c0, c1, t0, t1, Int.le_refl _, t0, fun _ _ => by show 0 < t.tot; omega, win, fa, fun h => (nid h).elim⟩
   split
   . exact ⟨c0, c1, t0, t1, s0, s1, fun _ h => absurd h (show ¬ (8 : Int) = 0 by decide), win, .inr (.inr (.inr rfl)), fun h => (nid h).elim⟩
   . exact ⟨c0, c1, t0, t1, s0, s1, run, win, fa, fun h => (nid h).elim⟩
 . exact same
structure Rs where
 ca : Int
 ct : Int
 la : Int
 qs : Bool
def kM (c : Int) : Prop := c = 2 \/ c = 4 \/ c = 8 \/ c = 16
instance (c : Int) : Decidable (kM c) := by unfold kM; infer_instance
structure Rs.ok (t : Rs) : Prop where
 a0 : 0 <= t.ca
 a1 : t.ca < 4294967296
 c0 : 0 <= t.ct
 c1 : t.ct < 4294967296
 l0 : 1 <= t.la
 l1 : t.la < 17
def nV : Rs := ⟨0, 0, 0, false⟩
def rsN : Rs := ⟨1, 0, 1, false⟩
theorem aB1 : rsN.ok := ⟨by decide, by decide, by decide, by decide, by decide, by decide⟩
def yU (n : Int) : Int := if n < 4294967295 then n + 1 else n
theorem rF (n : Int) (n0 : 0 <= n) (n1 : n < 4294967296) : 0 <= yU n /\ yU n < 4294967296 := by unfold yU; split <;> omega
def Rs.put (t : Rs) (c : Int) : Rs := ⟨bits BinOp.or IntKind.u32 t.ca c, yU t.ct, c, false⟩
def Rs.ltc (t : Rs) (c : Int) : Rs := if kM c then t.put c else t
theorem jM {c : Int} (h : kM c) : 1 <= c /\ c < 17 := by unfold kM at h; omega
theorem Rs.put_ok {t : Rs} (h : t.ok) {c : Int} (hc : kM c) : (t.put c).ok := by
 obtain ⟨c0, c1⟩ := jM hc
 obtain ⟨o0, o1⟩ := tV t.ca c h.a0 h.a1 (by omega) (by omega)
 obtain ⟨u0, u1⟩ := rF t.ct h.c0 h.c1
 exact ⟨o0, o1, u0, u1, c0, c1⟩
theorem Rs.ltc_ok {t : Rs} (h : t.ok) (c : Int) : (t.ltc c).ok := by
 unfold Rs.ltc
 split
 . exact Rs.put_ok h (by assumption)
 . exact h
def bT (o : Int) : Int := if o % 4 ≠ 0 then 11 else if 16 <= o then 10 else 0
def pO (o : Int) : Int := if bT o ≠ 0 then bT o else if o = 4 \/ o = 12 then 12 else 0
theorem jX {o : Int} (o0 : 0 <= o) (h : bT o = 0) : o = 0 \/ o = 4 \/ o = 8 \/ o = 12 := by
 unfold bT at h
 split at h
 . omega
 . split at h <;> omega
def Rs.val (t : Rs) (o : Int) : Int := if o = 0 then t.ca else if o = 4 then t.ct else if o = 12 then t.la else 0
def Rs.clr (t : Rs) (v : Int) : Rs := { t with ca := bits BinOp.andNot IntKind.u32 t.ca v }
def Rs.ask (t : Rs) (v : Int) : Rs := { t with qs := t.qs || (v == 45063) }
def Rs.sto (t : Rs) (o v : Int) : Rs := if o = 0 then t.clr v else if o = 8 then t.ask v else t
theorem Rs.clr_ok {t : Rs} (h : t.ok) {v : Int} (v0 : 0 <= v) (v1 : v < 4294967296) : (t.clr v).ok := by
 obtain ⟨b0, b1⟩ := dX t.ca v h.a0 h.a1 v0 v1
 exact ⟨b0, b1, h.c0, h.c1, h.l0, h.l1⟩
theorem Rs.ask_ok {t : Rs} (h : t.ok) (v : Int) : (t.ask v).ok := ⟨h.a0, h.a1, h.c0, h.c1, h.l0, h.l1⟩
theorem Rs.sto_ok {t : Rs} (h : t.ok) {o v : Int} (v0 : 0 <= v) (v1 : v < 4294967296) : (t.sto o v).ok := by
 unfold Rs.sto
 split
 . exact Rs.clr_ok h v0 v1
 . split
   . exact Rs.ask_ok h v
   . exact h
theorem iS : (prog.info? 255).map (·.size) = some 5 := by kernel_rfl
def s5 (ca ct ke la : Int) (qs : Bool) : List Value := [.int .u32 ca, .int .u32 ct, .int .u32 ke, .int .u32 la, .bool qs]
def al (t : Rs) : List Value := s5 t.ca t.ct 0 t.la t.qs
theorem aAy (t : Rs) : ∀ x ∈ al t, x.oneCell' = true := by
 intro x h
 simp only [al, s5, List.mem_cons, List.not_mem_nil, or_false] at h
 rcases h with rfl | rfl | rfl | rfl | rfl <;> rfl
abbrev tS : TypeId := 257
abbrev mJ : TypeId := 255
def bO (w : World) (b : Nat) (T : TypeId) (t : Rs) : Prop := w.heap[b]? = some (.cells (al t).toArray T (0, 0))
section
variable {w w' : World} {b : Nat} {T : TypeId} {t : Rs}
theorem bO.lt (h : bO w b T t) : b < w.heap.size := lt_of_block h
theorem bO.below (h : bO w b T t) (hb : Below w.heap.size w w') : bO w' b T t := aB hb h h.lt
theorem bO.off {S : Nat -> Prop} (h : bO w b T t) (ho : aD S w w') (hs : ¬ S b) : bO w' b T t := ho.at h hs
theorem bO.free (h : bO w b T t) (j : Nat) : w.frozen? ⟨b, j, none⟩ = false := aH h j
theorem bO.c0 (h : bO w b T t) : w.cell? ⟨b, 0, none⟩ = some (.int .u32 t.ca) := by rw [aA h 0]; rfl
theorem bO.c1 (h : bO w b T t) : w.cell? ⟨b, 1, none⟩ = some (.int .u32 t.ct) := by rw [aA h 1]; rfl
theorem bO.c2 (h : bO w b T t) : w.cell? ⟨b, 2, none⟩ = some (.int .u32 0) := by rw [aA h 2]; rfl
theorem bO.c3 (h : bO w b T t) : w.cell? ⟨b, 3, none⟩ = some (.int .u32 t.la) := by rw [aA h 3]; rfl
theorem bO.c4 (h : bO w b T t) : w.cell? ⟨b, 4, none⟩ = some (.bool t.qs) := by rw [aA h 4]; rfl
theorem bO.set (h : bO w b T t) (j : Nat) (x : Value) {s : Rs} (he : (al t).set j x = al s) : bO (w.setCell ⟨b, j, none⟩ x) b T s := by
 unfold bO; rw [aK h, <- he]; simp
theorem bO.s0 (h : bO w b T t) (x : Int) : bO (w.setCell ⟨b, 0, none⟩ (.int .u32 x)) b T { t with ca := x } := h.set _ _ rfl
theorem bO.s1 (h : bO w b T t) (x : Int) : bO (w.setCell ⟨b, 1, none⟩ (.int .u32 x)) b T { t with ct := x } := h.set _ _ rfl
theorem bO.s3 (h : bO w b T t) (x : Int) : bO (w.setCell ⟨b, 3, none⟩ (.int .u32 x)) b T { t with la := x } := h.set _ _ rfl
theorem bO.s4 (h : bO w b T t) (x : Bool) : bO (w.setCell ⟨b, 4, none⟩ (.bool x)) b T { t with qs := x } := h.set _ _ rfl
theorem bO.other (h : bO w b T t) (k j : Nat) (x : Value) (hne : b ≠ k) : bO (w.setCell ⟨k, j, none⟩ x) b T t := aN h k j x hne
theorem bO.row {old : Array Value} (h : w.heap[b]? = some (.cells old T (0, 0))) (t : Rs) : bO (w.setRow b (al t).toArray) b T t := dJ _ h
theorem bO.elseRow (h : bO w b T t) (g : Nat) (cs : Array Value) (hne : b ≠ g) : bO (w.setRow g cs) b T t := dR g cs h hne
theorem bO.alloc (h : bO w b T t) (o : Obj) : bO (w.alloc o) b T t := (aJ w o h.lt).trans h
theorem bO.grown (h : bO w b T t) : ∀ w', (∃ p : Regrown, w' = grow (redrawn w p.d) p.os) -> bO w' b T t := cH h
end
section
variable {ops : Array Oper} {rest : List Oper} {o : Oper} {a : Act} {w : World} {Q : Exit -> Act -> World -> Prop}
theorem rX (hgd : o.guard = none) (x : Operand) (ho : o.op = .load 255 x) {b : Nat} {T : TypeId} (hx : a.eval x = .pointer (some ⟨b, 0, none⟩)) {t : Rs} (hg : bO w b T t)
 (h : wpList prog ops Q rest (a.put o.dst (.agg (al t).toArray)) w) : wpList prog ops Q (o :: rest) a w :=
 cA hgd _ x ho b 0 hx _ (al t) hg underlying255 rfl iS (bK _) h
theorem rD (hgd : o.guard = none) (x y : Operand) (ho : o.op = .store 255 x y) {b : Nat} {T : TypeId} (hx : a.eval x = .pointer (some ⟨b, 0, none⟩)) {t : Rs} (hy : a.eval y = .agg (al t).toArray) {t' : Rs} (hg : bO w b T t')
 (h : wpList prog ops Q rest (a.put o.dst undef) (w.setRow b (al t).toArray)) : wpList prog ops Q (o :: rest) a w := by
 refine aW hgd _ x y ho b 0 hx (al t) hy hg iS (by simp [al, s5]) (aAy t) ?_
 rw [cJ _ _ (by simp [al, s5])]
 exact h
end
theorem aDD {fn : Func} {p : Tmp} (h : fn.results = #[.cell p 255]) (tmps : Array Value) (w : World) {b : Nat} {T : TypeId} {t : Rs} (hp : tmps[p]? = some (.pointer (some ⟨b, 0, none⟩))) (hg : bO w b T t) :
 (results fn tmps).run prog w = .ok (.agg (al t).toArray) w :=
 bL h tmps w b 0 _ (al t) hp hg underlying255 rfl iS (bK _)
def mD (T : TypeId) (t : Rs) : Obj := .cells (al t).toArray T (0, 0)
theorem qY (T : TypeId) (t : Rs) : Obj.cells (al t).toArray T (0, 0) = mD T t := rfl
theorem sL (T : TypeId) : Obj.cells #[.int .u32 0, .int .u32 0, .int .u32 0, .int .u32 0, .bool false] T (0, 0) = mD T nV := rfl
theorem qB (w : World) (T : TypeId) (t : Rs) : bO (w.alloc (mD T t)) w.heap.size T t := aF w _
def isz (t : Rs) : Bool := vS [t.ca, t.ct, 0, t.la] [0, 0, 0, 0] && (t.qs == false)
theorem qR {t : Rs} (h : t.ok) : isz t = false := by
 have hl := h.l0
 unfold isz vS
 rw [Bool.and_eq_false_iff]
 left
 rw [beq_eq_false_iff_ne]
 intro e
 simp only [List.cons.injEq, and_true] at e
 omega
theorem eqS (a b c d a' b' c' d' : Int) (e e' : Bool) (w : World) :
 (Op.equalIn 10000 255 (.agg (s5 a b c d e).toArray) (.agg (s5 a' b' c' d' e').toArray)).run prog w = .ok (vS [a, b, c, d] [a', b', c', d'] && (e == e')) w := by
 have hi : (prog.info? 26).isSome = true := by kernel_rfl
 obtain ⟨i, hi⟩ := Option.isSome_iff_exists.1 hi
 have hc : prog.cellsOf 26 = 1 := by kernel_rfl
 have h := run_equalIn_array w 9998 (i := i) #[.int .u32 a, .int .u32 b, .int .u32 c, .int .u32 d] #[.int .u32 a', .int .u32 b', .int .u32 c', .int .u32 d'] underlying253 hi
 rw [hc] at h
 have g := gJ 9997 26 .u32 underlying26 [a, b, c, d] [a', b', c', d'] w (List.range 4) (by intro i hi; simpa using hi)
 have r := lQ [a, b, c, d] [a', b', c', d'] rfl
 have key := (h.trans g).trans (congrArg (fun b => Result.ok b w) r)
 rw [run_equalIn_struct w 9999 255 _ _ (by kernel_rfl) (by kernel_rfl)]
 simp only [Program.fieldsOf, underlying255]
 simp only [Op.eqFields]
 have pa : ∀ (a b c d : Int) (e : Bool), (part 253 (s5 a b c d e).toArray 0).run prog w = .ok (.agg #[.int .u32 a, .int .u32 b, .int .u32 c, .int .u32 d]) w := fun a b c d e => by
  have hs : (sizeOf 253).run prog w = .ok 4 w := by kernel_rfl
  have ha : (isAgg 253).run prog w = .ok true w := by kernel_rfl
  simp [part, ha, hs, Sem.run_bind, s5]
 have pb : ∀ (a b c d : Int) (e : Bool), (part 4 (s5 a b c d e).toArray 4).run prog w = .ok (.bool e) w := fun a b c d e => by
  have ha : (isAgg 4).run prog w = .ok false w := by kernel_rfl
  simp [part, ha, Sem.run_bind, s5]
 rw [if_pos (by decide), if_pos (by decide)]
 simp only [Sem.run_bind, pa, pb, Result.andThen_ok, key]
 have hq := run_equalIn_bool w 9998 4 e e' underlying4
 rw [show 9998 + 1 = 9999 from rfl] at hq
 cases vS [a, b, c, d] [a', b', c', d']
 . simp
 . cases hx : e == e'
   . rw [hx] at hq; simp [pb, hq]
   . rw [hx] at hq; simp [pb, hq]
theorem aDg (s t : Rs) (w : World) : (Op.equalIn 10000 255 (.agg (al s).toArray) (.agg (al t).toArray)).run prog w = .ok (vS [s.ca, s.ct, 0, s.la] [t.ca, t.ct, 0, t.la] && (s.qs == t.qs)) w := eqS _ _ _ _ _ _ _ _ _ _ w
theorem aBT {ops : Array Oper} {rest : List Oper} {o : Oper} {a : Act} {w : World} {Q : Exit -> Act -> World -> Prop} (hgd : o.guard = none) (x y : Operand) (u : TypeId) (ho : o.op = .binOp .eql 255 x y u) {t : Rs} (hx : a.eval x = .agg (al t).toArray) (hy : a.eval y = .agg (al nV).toArray)
 (h : wpList prog ops Q rest (a.put o.dst (.bool (isz t))) w) : wpList prog ops Q (o :: rest) a w :=
 wpList_plain hgd fun _ hK => by
  have hg : (eqGuard .eql 255 x y (.agg (al t).toArray) (.agg (al nV).toArray)).run prog w = .ok () w := by
   have e : prog.eqGuardType prog.depth 255 = false := by kernel_rfl
   simp [eqGuard, Sem.run_bind, run_program, e]
  have hb : (binOp .eql 255 (.agg (al t).toArray) (.agg (al nV).toArray)).run prog w = .ok (.bool (isz t)) w := by
   have e := aDg t nV w
   simp only [binOp, Op.equal, Sem.run_bind, Op.maxDepth]
   rw [e]
   rfl
  unfold Oper.wp execOp
  simp only [ho, hx, hy, Sem.run_bind, hg, hb, Result.andThen_ok]
  exact hK _ _ h
theorem rB (t : Rs) (w : World) : Calls prog 222 #[.agg (al t).toArray] w fun e w' => e = .returned (.bool (isz t)) /\ Below w.heap.size w w' := by
 have X := qB w mJ t
 have hb := aO (aT w) (mD mJ t)
 go_enter func222, ntmps222
 go_upto_region 1 with (fail)
 rw [qY]
 generalize w.alloc (mD mJ t) = W at *
 go_wp2_with (first | (refine rX rfl (.tmp 1) rfl rfl X ?_) | (refine aBT rfl (.tmp 3) (.tmp 4) _ rfl rfl rfl ?_))
 go_ret
 exact ⟨rfl, hb⟩
theorem mG (t : Rs) (p : Nat) (w : World) (a : bO w p tS t) : Calls prog 185 #[.pointer (some ⟨p, 0, none⟩)] w fun e w' => e = .returned (.agg (al t).toArray) /\ Below w.heap.size w w' := by
 have X := qB w mJ nV
 have A := a.alloc (mD mJ nV)
 have hb := aO (aT w) (mD mJ nV)
 go_enter func185, ntmps185
 go_upto_region 1 with (fail)
 rw [sL]
 clear a
 generalize w.alloc (mD mJ nV) = W at *
 have Z := bO.row X t
 have hB := aM hb (al t).toArray (g := w.heap.size) (Nat.le_refl _)
 go_wp2_with (first | (refine rX rfl (.tmp 8) rfl rfl A ?_) | (refine rD rfl (.tmp 2) (.tmp 9) rfl rfl (t := t) rfl X ?_))
 exact bodyPost_ret (aDD rfl _ _ rfl Z) rfl ⟨rfl, hB⟩
theorem aDF (w : World) : Calls prog 101 #[] w fun e w' => e = .returned (.pointer (some ⟨w.heap.size, 0, none⟩)) /\ bO w' w.heap.size tS rsN /\ Below w.heap.size w w' := by
 have X := qB w tS nV
 have hb := aO (aT w) (mD tS nV)
 go_enter func101, ntmps101
 go_upto_region 2 with (fail)
 rw [sL]
 generalize w.alloc (mD tS nV) = W at *
 have f0 := X.free 0
 have f3 := X.free 3
 have x0 := X.c0
 have x3 := X.c3
 have Y1 := (X.s0 1).s3 1
 have Y2 := (X.s3 1).s0 1
 have B1 := (hb.setCell (p := ⟨w.heap.size, 0, none⟩) (Nat.le_refl _) (.int .u32 1)).setCell (p := ⟨w.heap.size, 3, none⟩) (Nat.le_refl _) (.int .u32 1)
 have B2 := (hb.setCell (p := ⟨w.heap.size, 3, none⟩) (Nat.le_refl _) (.int .u32 1)).setCell (p := ⟨w.heap.size, 0, none⟩) (Nat.le_refl _) (.int .u32 1)
 clear X hb
 go_region
 all_goals
  go_wp2_with fail
  go_ret
  first | exact ⟨rfl, Y1, B1⟩ | exact ⟨rfl, Y2, B2⟩ | exact ⟨rfl, Y1.below (uH (aT _)), uH B1⟩ | exact ⟨rfl, Y2.below (uH (aT _)), uH B2⟩
theorem aDi (ca ct ke la : Int) (qs : Bool) (w : World) : (Instr.field 255 (.agg #[.int .u32 ca, .int .u32 ct, .int .u32 ke, .int .u32 la, .bool qs]) 1).run prog w = .ok (.bool qs) w := by
 have ha : (isAgg 4).run prog w = .ok false w := by kernel_rfl
 simp [Instr.field, Sem.run_bind, run_underlying underlying255, part, ha, asAgg]
theorem sD (t : Rs) (p : Nat) (w : World) (a : bO w p tS t) : Calls prog 108 #[.pointer (some ⟨p, 0, none⟩)] w fun e w' => e = .returned (.bool t.qs) /\ Below w.heap.size w w' := by
 go_enter func108, ntmps108
 go_wp2_with fail
 refine (mG t p _ a).mono ?_
 rintro e w1 ⟨rfl, hb⟩
 have hf := aDi t.ca t.ct 0 t.la t.qs
 unfold al s5
 exact cV
theorem lE {P : Prop} (h : P := by
 have X3 : bO W2 w.heap.size mJ (t.put c) := by rw [<- HP]; exact X2
 clear X2 HP
 have Y3 := bO.row Y2 (t.put c)
 have hB3 := aM hB2 (al (t.put c)).toArray (g := w.heap.size + 1) (by omega)
 go_wp2_with (first | (refine rX rfl (.tmp 2) rfl rfl X3 ?_) | (refine rD rfl (.tmp 4) (.tmp 26) rfl rfl rfl Y2 ?_))
 exact bodyPost_ret (aDD rfl _ _ rfl Y3) rfl ⟨rfl, hB3⟩
 ) : P := h
theorem tY (t : Rs) (c : Int) (w : World) (h : t.ok) (hc : 0 <= c) (hc1 : c < 4294967296) :
 Calls prog 223 #[.agg (al t).toArray, .int .u32 c] w fun e w' => e = .returned (.agg (al (t.put c)).toArray) /\ Below w.heap.size w w' := by
 have hB := aO (aO (aT w) (mD mJ t)) (mD mJ nV)
 have X : bO ((w.alloc (mD mJ t)).alloc (mD mJ nV)) w.heap.size mJ t := hJ w _ _
 have Y : bO ((w.alloc (mD mJ t)).alloc (mD mJ nV)) (w.heap.size + 1) mJ nV := fU w _ _
 have n0 := h.c0
 have n1 := h.c1
 have HP : (⟨bits BinOp.or IntKind.u32 t.ca c, yU t.ct, c, false⟩ : Rs) = t.put c := rfl
 by_cases hm : t.ct < 4294967295
 . have hu : yU t.ct = t.ct + 1 := by unfold yU; rw [if_pos hm]
   rw [hu] at HP
   clear hu
   go_enter func223, ntmps223
   go_upto_region 1 with (fail)
   rw [sL, qY]
   generalize ((w.alloc (mD mJ t)).alloc (mD mJ nV)) = W at *
   have x0 := X.c0
   have x1 := X.c1
   have x3 := X.c3
   have x4 := X.c4
   have f0 := X.free 0
   have f1 := X.free 1
   have f3 := X.free 3
   have f4 := X.free 4
   go_upto_region 6 with (fail)
   have X2 := (((X.s0 (bits BinOp.or IntKind.u32 t.ca c)).s3 c).s1 (t.ct + 1)).s4 false
   have Y2 := (((Y.other w.heap.size 0 (.int .u32 (bits BinOp.or IntKind.u32 t.ca c)) (by omega)).other w.heap.size 3 (.int .u32 c) (by omega)).other w.heap.size 1 (.int .u32 (t.ct + 1)) (by omega)).other w.heap.size 4 (.bool false) (by omega)
   have hB2 := (((hB.setCell (p := ⟨w.heap.size, 0, none⟩) (by simp) (.int .u32 (bits BinOp.or IntKind.u32 t.ca c))).setCell (p := ⟨w.heap.size, 3, none⟩) (by simp) (.int .u32 c)).setCell (p := ⟨w.heap.size, 1, none⟩) (by simp) (.int .u32 (t.ct + 1))).setCell (p := ⟨w.heap.size, 4, none⟩) (by simp) (.bool false)
   clear X Y hB x0 x1 x3 x4 f0 f1 f3 f4
   generalize ((((W.setCell ⟨w.heap.size, 0, none⟩ (.int .u32 (bits BinOp.or IntKind.u32 t.ca c))).setCell ⟨w.heap.size, 3, none⟩ (.int .u32 c)).setCell ⟨w.heap.size, 1, none⟩ (.int .u32 (t.ct + 1))).setCell ⟨w.heap.size, 4, none⟩ (.bool false)) = W2 at *
   exact lE
 . have hu : yU t.ct = t.ct := by unfold yU; rw [if_neg hm]
   rw [hu] at HP
   clear hu
   go_enter func223, ntmps223
   go_upto_region 1 with (fail)
   rw [sL, qY]
   generalize ((w.alloc (mD mJ t)).alloc (mD mJ nV)) = W at *
   have x0 := X.c0
   have x1 := X.c1
   have x3 := X.c3
   have x4 := X.c4
   have f0 := X.free 0
   have f1 := X.free 1
   have f3 := X.free 3
   have f4 := X.free 4
   go_upto_region 6 with (fail)
   have X2 := ((X.s0 (bits BinOp.or IntKind.u32 t.ca c)).s3 c).s4 false
   have Y2 := ((Y.other w.heap.size 0 (.int .u32 (bits BinOp.or IntKind.u32 t.ca c)) (by omega)).other w.heap.size 3 (.int .u32 c) (by omega)).other w.heap.size 4 (.bool false) (by omega)
   have hB2 := ((hB.setCell (p := ⟨w.heap.size, 0, none⟩) (by simp) (.int .u32 (bits BinOp.or IntKind.u32 t.ca c))).setCell (p := ⟨w.heap.size, 3, none⟩) (by simp) (.int .u32 c)).setCell (p := ⟨w.heap.size, 4, none⟩) (by simp) (.bool false)
   clear X Y hB x0 x1 x3 x4 f0 f1 f3 f4
   generalize (((W.setCell ⟨w.heap.size, 0, none⟩ (.int .u32 (bits BinOp.or IntKind.u32 t.ca c))).setCell ⟨w.heap.size, 3, none⟩ (.int .u32 c)).setCell ⟨w.heap.size, 4, none⟩ (.bool false)) = W2 at *
   exact lE
theorem xL (w : World) (p : Nat) (cs : Array Value) : aD (· = p) w (w.setRow p cs) := ⟨rfl, rfl, rfl, by simp, fun k _ hs => setRow_other w p k cs hs⟩
theorem rA (t : Rs) (c : Int) (p : Nat) (w : World) (h : t.ok) (hc : kM c) (a : bO w p tS t) :
 Calls prog 186 #[.pointer (some ⟨p, 0, none⟩), .int .i64 c] w fun e w' => e = .returned (.bool true) /\ bO w' p tS (t.put c) /\ aD (· = p) w w' := by
 obtain ⟨b0, b1⟩ := jM hc
 have HN := Hd (fun w => by have := rB t w; rw [qR h] at this; exact this)
 obtain ⟨s, hs⟩ : ∃ s, t.put c = s := ⟨_, rfl⟩
 have HL := Hd (fun w => by have := tY t c w h (by omega) (by omega); rw [hs] at this; exact this)
 rw [hs]
 clear hs
 go_enter func186, ntmps186
 go_wp2_with fail
 refine (mG t p _ a).mono ?_
 rintro e w1 ⟨rfl, h1⟩
 go_wp2_with fail
 refine (HN.out _).mono ?_
 rintro e w2 ⟨rfl, h2⟩
 have A := (a.below (tr h1 h2))
 have hB := tr h1 h2
 clear h1 h2 HN a
 unfold kM at hc
 rcases hc with rfl | rfl | rfl | rfl
 all_goals
  go_wp2_with (refine rX rfl (.tmp 17) rfl rfl A ?_)
  refine (HL.out _).mono ?_
  rintro e w3 ⟨rfl, h3⟩
  have A3 := A.below h3
  have Z := bO.row A3 s
  have hO := (aD.ofBelow (S := (· = p)) hB).trans ((aD.ofBelow h3).trans (xL w3 p (al s).toArray))
  go_wp2_with (refine rD rfl (.tmp 23) (.tmp 21) rfl rfl rfl A3 ?_)
  go_ret
  exact ⟨rfl, Z, hO⟩
theorem tX (t : Rs) (c : Int) (p : Nat) (w : World) (h : t.ok) (hc : ¬ kM c) (a : bO w p tS t) :
 Calls prog 186 #[.pointer (some ⟨p, 0, none⟩), .int .i64 c] w fun e w' => e = .returned (.bool false) /\ Below w.heap.size w w' := by
 have HN := Hd (fun w => by have := rB t w; rw [qR h] at this; exact this)
 have n2 : (c == 2) = false := by unfold kM at hc; simp; omega
 have n4 : (c == 4) = false := by unfold kM at hc; simp; omega
 have n8 : (c == 8) = false := by unfold kM at hc; simp; omega
 have n16 : (c == 16) = false := by unfold kM at hc; simp; omega
 clear hc
 go_enter func186, ntmps186
 go_wp2_with fail
 refine (mG t p _ a).mono ?_
 rintro e w1 ⟨rfl, h1⟩
 go_wp2_with fail
 refine (HN.out _).mono ?_
 rintro e w2 ⟨rfl, h2⟩
 go_wp2_with fail
 go_ret
 exact ⟨rfl, tr h1 h2⟩
theorem fD {P : Prop} (h : P := by
 rintro e w1 ⟨rfl, h1⟩
 exact ⟨rfl, a.below h1, aD.ofBelow h1⟩
 ) : P := h
theorem aAO (t : Rs) (c : Int) (p : Nat) (w : World) (h : t.ok) (a : bO w p tS t) :
 Calls prog 186 #[.pointer (some ⟨p, 0, none⟩), .int .i64 c] w fun e w' => e = .returned (.bool (decide (kM c))) /\ bO w' p tS (t.ltc c) /\ aD (· = p) w w' := by
 by_cases hc : kM c
 . have e1 : t.ltc c = t.put c := by unfold Rs.ltc; rw [if_pos hc]
   rw [e1, decide_eq_true hc]
   exact rA t c p w h hc a
 . have e1 : t.ltc c = t := by unfold Rs.ltc; rw [if_neg hc]
   rw [e1, decide_eq_false hc]
   refine (tX t c p w h hc a).mono ?_
   exact fD
theorem dK {P : Prop} (h : P := by
 rintro e w1 ⟨rfl, h1⟩
 go_wp2_with fail
 refine (HN.out _).mono ?_
 rintro e w2 ⟨rfl, h2⟩
 go_wp2_with fail
 go_ret
 exact ⟨bV HE.out.symm, tr h1 h2⟩
 ) : P := h
theorem fL (t : Rs) (o : Int) (p : Nat) (w : World) (h : t.ok) (a : bO w p tS t) (o0 : 0 <= o) (o1 : o < 4294967296) :
 Calls prog 294 #[.pointer (some ⟨p, 0, none⟩), .int .u32 o] w fun e w' => e = .returned (.int .i64 (bT o)) /\ Below w.heap.size w w' := by
 have HN := Hd (fun w => by have := rB t w; rw [qR h] at this; exact this)
 cases h4 : (o % 4 != 0)
 . by_cases h16 : 16 <= o
   . have HE := Hd (show bT o = 10 by unfold bT; rw [if_neg (by simpa using h4), if_pos h16])
     go_enter func294, ntmps294
     go_wp2_with fail
     refine (mG t p _ a).mono ?_
     exact dK
   . have HE := Hd (show bT o = 0 by unfold bT; rw [if_neg (by simpa using h4), if_neg h16])
     go_enter func294, ntmps294
     go_wp2_with fail
     refine (mG t p _ a).mono ?_
     exact dK
 . have HE := Hd (show bT o = 11 by unfold bT; rw [if_pos (by simpa using h4)])
   go_enter func294, ntmps294
   go_wp2_with fail
   refine (mG t p _ a).mono ?_
   exact dK
def jZ (t : Rs) (o : Int) : Int := if bT o = 0 then t.val o else 0
theorem cU {P : Prop} (h : P := by
 go_wp2_with fail
 go_ret2
 exact ⟨rfl, h1⟩
 ) : P := h
theorem aB0 (t : Rs) (o : Int) (p : Nat) (w : World) (h : t.ok) (a : bO w p tS t) (o0 : 0 <= o) (o1 : o < 4294967296) :
 Calls prog 292 #[.pointer (some ⟨p, 0, none⟩), .int .u32 o] w fun e w' => e = .returned (.tuple #[.int .u32 (jZ t o), .int .i64 (bT o)]) /\ Below w.heap.size w w' := by
 have HC := Hd (fun w a => fL t o p w h a o0 o1)
 obtain ⟨V, hV⟩ : ∃ V, jZ t o = V := ⟨_, rfl⟩
 by_cases he : bT o = 0
 . rw [he] at HC ⊢
   have hv : V = t.val o := by rw [<- hV]; unfold jZ; rw [if_pos he]
   rw [hV]
   clear hV
   rcases jX o0 he with rfl | rfl | rfl | rfl
   . replace hv : V = t.ca := hv
     subst hv
     clear he
     go_enter func292, ntmps292
     go_wp2_with fail
     refine (HC.out _ a).mono ?_
     rintro e w1 ⟨rfl, h1⟩
     have A := a.below h1
     have x0 := A.c0
     exact cU
   . replace hv : V = t.ct := hv
     subst hv
     clear he
     go_enter func292, ntmps292
     go_wp2_with fail
     refine (HC.out _ a).mono ?_
     rintro e w1 ⟨rfl, h1⟩
     have A := a.below h1
     have x0 := A.c1
     exact cU
   . replace hv : V = 0 := hv
     subst hv
     clear he
     go_enter func292, ntmps292
     go_wp2_with fail
     refine (HC.out _ a).mono ?_
     rintro e w1 ⟨rfl, h1⟩
     have A := a.below h1
     have x0 := A.c2
     exact cU
   . replace hv : V = t.la := hv
     subst hv
     clear he
     go_enter func292, ntmps292
     go_wp2_with fail
     refine (HC.out _ a).mono ?_
     rintro e w1 ⟨rfl, h1⟩
     have A := a.below h1
     have x0 := A.c3
     exact cU
 . have hv : V = 0 := by rw [<- hV]; unfold jZ; rw [if_neg he]
   subst hv
   rw [hV]
   obtain ⟨E, hE⟩ : ∃ E, bT o = E := ⟨_, rfl⟩
   rw [hE] at HC he ⊢
   have q1 : (E != 0) = true := by simpa using he
   clear hV hE he
   go_enter func292, ntmps292
   go_wp2_with fail
   refine (HC.out _ a).mono ?_
   rintro e w1 ⟨rfl, h1⟩
   exact cU
end Go.Proofs.YtaohacadochldaaGreat.B
