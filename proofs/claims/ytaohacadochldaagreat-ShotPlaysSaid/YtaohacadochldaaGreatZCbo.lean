/- A part of the proof of a law of layer 12: bo. -/
import Derived.Test.YtaohacadochldaaGreatZCbn
set_option linter.unusedVariables false
set_option linter.unusedSimpArgs false
set_option maxHeartbeats 12800000
set_option maxRecDepth 100000
namespace Go.Proofs.YtaohacadochldaaGreat.B
open Go.Proofs.Tryz
open Go.ChangeShapes Go.WideShapes Go.RowKit Go.Sort
theorem vP : (prog.info? 42).map (·.size) = some 114 := by kernel_rfl
abbrev aBi : TypeId := 42
def pr (p : Pt) (gv : Value) : List Value := [gv, .int .i64 p.md, .int .u64 p.sp, .int .i64 p.se]
def pl (n : Nat) (p : Pt) (bk ev gv : Value) : List Value := ml n p.x bk ev ++ pr p gv
theorem gE (n : Nat) (p : Pt) (bk ev gv : Value) : (pl n p bk ev gv).length = 114 := by unfold pl; rw [List.length_append, cO]; rfl
theorem aG5 (n : Nat) (p : Pt) (bk ev gv : Value) (h1 : bk.oneCell' = true /\ ev.oneCell' = true /\ gv.oneCell' = true) : ∀ v ∈ pl n p bk ev gv, v.oneCell' = true := by
 intro v hv
 unfold pl at hv
 rcases List.mem_append.1 hv with h | h
 . exact aAG n p.x bk ev h1.1 h1.2.1 v h
 . simp only [pr, List.mem_cons, List.not_mem_nil, or_false] at h
   rcases h with rfl | rfl | rfl | rfl <;> first | rfl | exact h1.2.2
theorem aIz (n : Nat) (p : Pt) (bk ev gv : Value) (j : Nat) : (pl n p bk ev gv)[110 + j]? = (pr p gv)[j]? := by
 unfold pl
 rw [List.getElem?_append_right (by rw [cO]; omega), cO, Nat.add_sub_cancel_left]
theorem aMX (n : Nat) (p : Pt) (bk ev gv : Value) (j : Nat) (v : Value) : (pl n p bk ev gv).set (110 + j) v = ml n p.x bk ev ++ (pr p gv).set j v := by
 unfold pl
 rw [List.set_append_right _ _ (by rw [cO]; omega), cO, Nat.add_sub_cancel_left]
def QP (w : World) (b n : Nat) (p : Pt) (bk ev gv : Value) : Prop := w.heap[b]? = some (.cells (pl n p bk ev gv).toArray aBi (0, 0))
section
variable {w w' : World} {b n : Nat} {p : Pt} {bk ev gv : Value}
theorem QP.lt (h : QP w b n p bk ev gv) : b < w.heap.size := lt_of_block h
theorem QP.below (h : QP w b n p bk ev gv) (hb : Below w.heap.size w w') : QP w' b n p bk ev gv := aC hb h h.lt
theorem QP.free (h : QP w b n p bk ev gv) (j : Nat) : w.frozen? ⟨b, j, none⟩ = false := aK h j
theorem QP.get (h : QP w b n p bk ev gv) (j : Nat) (v : Value) (hj : (pr p gv)[j]? = some v) : w.cell? ⟨b, 110 + j, none⟩ = some v := by rw [aA h, List.getElem?_toArray, aIz]; exact hj
theorem QP.cG (h : QP w b n p bk ev gv) : w.cell? ⟨b, 110, none⟩ = some gv := h.get 0 _ rfl
theorem QP.cM (h : QP w b n p bk ev gv) : w.cell? ⟨b, 111, none⟩ = some (.int .i64 p.md) := h.get 1 _ rfl
theorem QP.cS (h : QP w b n p bk ev gv) : w.cell? ⟨b, 112, none⟩ = some (.int .u64 p.sp) := h.get 2 _ rfl
theorem QP.cD (h : QP w b n p bk ev gv) : w.cell? ⟨b, 113, none⟩ = some (.int .i64 p.se) := h.get 3 _ rfl
theorem QP.cE (h : QP w b n p bk ev gv) : w.cell? ⟨b, 109, none⟩ = some ev := by
 rw [aA h, List.getElem?_toArray]
 unfold pl
 rw [List.getElem?_append_left (by rw [cO]; decide), aIq]
 exact kO _ [ev] _ 109 0 _ (aGX n p.x bk) rfl
theorem QP.set (h : QP w b n p bk ev gv) (j : Nat) (v : Value) (p' : Pt) (gv' : Value) (hx : p'.x = p.x) (he : (pr p gv).set j v = pr p' gv') : QP (w.setCell ⟨b, 110 + j, none⟩ v) b n p' bk ev gv' := by
 unfold QP
 rw [aR h, gL, aMX, he, <- hx]
 rfl
theorem QP.setG (h : QP w b n p bk ev gv) (v : Value) (gs : List Int) : QP (w.setCell ⟨b, 110, none⟩ v) b n { p with gs := gs } bk ev v := h.set 0 v _ _ rfl rfl
theorem QP.setM (h : QP w b n p bk ev gv) (k : Nat) : QP (w.setCell ⟨b, 111, none⟩ (.int .i64 k)) b n { p with md := k } bk ev gv := h.set 1 _ _ _ rfl rfl
theorem QP.setS (h : QP w b n p bk ev gv) (k : Int) : QP (w.setCell ⟨b, 112, none⟩ (.int .u64 k)) b n { p with sp := k } bk ev gv := h.set 2 _ _ _ rfl rfl
theorem QP.setD (h : QP w b n p bk ev gv) (k : Nat) : QP (w.setCell ⟨b, 113, none⟩ (.int .i64 k)) b n { p with se := k } bk ev gv := h.set 3 _ _ _ rfl rfl
theorem QP.kp (h : QP w b n p bk ev gv) (K : Kp w w') : QP w' b n p bk ev gv := K _ _ _ _ h (by decide)
theorem wG {P : Prop} (h : P := by
 obtain ⟨g, cap, h3, h4⟩ := M.k
 exact ⟨⟨g, cap, h3, h4.off ho (h4.ne h rfl)⟩, M.e.keep fun k hk => ho.block k (M.e.lt hk) (fun e2 => by have h5 := M.e.kd hk; rw [e2, bT h] at h5; revert h5; decide)⟩
 ) : P := h
theorem oF {c : Nat} {x : Bx} {cs : Array Value} (M : MV w c x bk ev) (ho : aF (· = b) w w') (h : w.heap[b]? = some (.cells cs aBi (0, 0))) : MV w' c x bk ev := by
 exact wG
theorem pX {s : Nat} {gs : List Int} {cs : Array Value} (G : jW s w gv gs) (hs : s <= b) (ho : aF (· = b) w w') (h : w.heap[b]? = some (.cells cs aBi (0, 0))) : jW s w' gv gs :=
 G.off ho fun k _ hk e => by
  rcases hk with hk | hk
  . omega
  . rw [e, bT h] at hk; revert hk; decide
end
def fW (n : Nat) (p : Pt) (bk ev gv : Value) : Obj := .cells (pl n p bk ev gv).toArray aBi (0, 0)
theorem cP (n : Nat) (p : Pt) (bk ev gv : Value) : Obj.cells (pl n p bk ev gv).toArray 42 (0, 0) = fW n p bk ev gv := rfl
def dI : Obj := .cells #[.int .u64 0, .int .u32 0, .int .u32 0, .int .u32 0, .int .u32 0, .int .u32 0, .int .u32 0, .int .u32 0, .int .u32 0, .int .u32 0, .int .u32 0, .int .u32 0, .int .u32 0, .int .u32 0, .int .u32 0, .int .u32 0, .int .u32 0, .int .u32 0, .int .u32 0, .int .u32 0, .int .u32 0, .int .u32 0, .int .u32 0, .int .u32 0, .int .u32 0, .int .i64 0, .slice none 0 0, .bool false, .bool false, .bool false, .int .u32 0, .int .u32 0, .int .u64 0, .int .i64 0, .bool false, .bool false, .bool false, .bool false, .bool false, .bool false, .bool false, .bool false, .bool false, .bool false, .bool false, .bool false, .bool false, .bool false, .bool false, .bool false, .bool false, .bool false, .bool false, .bool false, .bool false, .bool false, .bool false, .bool false, .bool false, .bool false, .bool false, .bool false, .bool false, .bool false, .bool false, .bool false, .int .i64 0, .int .u32 0, .bool false, .int .u32 0, .int .u32 0, .int .u32 0, .int .u64 0, .int .u32 0, .int .u32 0, .bool false, .bool false, .bool false, .bool false, .bool false, .bool false, .bool false, .bool false, .bool false, .bool false, .bool false, .bool false, .bool false, .bool false, .bool false, .bool false, .bool false, .bool false, .bool false, .bool false, .bool false, .bool false, .bool false, .bool false, .bool false, .bool false, .bool false, .bool false, .bool false, .bool false, .bool false, .bool false, .bool false, .bool false, .slice none 0 0, .slice none 0 0, .int .i64 0, .int .u64 0, .int .i64 0] aBi (0, 0)
theorem bH : Obj.cells zeroCells42 42 (0, 0) = dI := by kernel_rfl
def ZP (w : World) (r : Nat) : Prop := ∃ cs : Array Value, w.heap[r]? = some (.cells cs aBi (0, 0)) /\ cs.size = 114
theorem ZP.below {w w' : World} {r : Nat} (h : ZP w r) (hb : Below w.heap.size w w') : ZP w' r := by obtain ⟨cs, h1, h2⟩ := h; exact ⟨cs, aC hb h1 (lt_of_block h1), h2⟩
theorem ZP.off {w w' : World} {r p : Nat} (h : ZP w r) (ho : aF (· = p) w w') (hne : r ≠ p) : ZP w' r := by obtain ⟨cs, h1, h2⟩ := h; exact ⟨cs, ho.at h1 hne, h2⟩
theorem ZP.kp {w w' : World} {r : Nat} (h : ZP w r) (K : Kp w w') : ZP w' r := by obtain ⟨cs, h1, h2⟩ := h; exact ⟨cs, K _ _ _ _ h1 (by decide), h2⟩
theorem ZP.new (w : World) {v : World} {r : Nat} (h : v.heap[r]? = some dI) : ZP v r := ⟨_, h, rfl⟩
section
variable {ops : Array Oper} {rest : List Oper} {o : Oper} {a : Act} {w : World} {Q : Exit -> Act -> World -> Prop} {b n : Nat} {p : Pt} {bk ev gv : Value}
theorem mN (hgd : o.guard = none) (y : Operand) (ho : o.op = .load 42 y) (hx : a.eval y = .pointer (some ⟨b, 0, none⟩)) (hg : QP w b n p bk ev gv)
 (h : wpList prog ops Q rest (a.put o.dst (.agg (pl n p bk ev gv).toArray)) w) : wpList prog ops Q (o :: rest) a w :=
 aN hgd _ y ho b 0 hx _ (pl n p bk ev gv) hg underlying42 rfl (by rw [gE]; exact vP) (aL _) h
theorem aPs (y : Operand) (ho : o.op = .load 42 y) (hw : Region.wanted o (yielded ops a.tmps) = true) (hx : a.eval y = .pointer (some ⟨b, 0, none⟩)) (hg : QP w b n p bk ev gv)
 (h : wpList prog ops Q rest (a.put o.dst (.agg (pl n p bk ev gv).toArray)) w) : wpList prog ops Q (o :: rest) a w :=
 dC _ y ho hw b 0 hx _ (pl n p bk ev gv) hg underlying42 rfl (by rw [gE]; exact vP) (aL _) h
theorem aGT (hgd : o.guard = none) (y : Operand) (ho : o.op = .load 40 y) (hx : a.eval y = .pointer (some ⟨b, 0, none⟩)) (hg : QP w b n p bk ev gv)
 (h : wpList prog ops Q rest (a.put o.dst (.agg (ml n p.x bk ev).toArray)) w) : wpList prog ops Q (o :: rest) a w :=
 aN hgd _ y ho b 0 hx _ (ml n p.x bk ev) hg underlying40 rfl (by rw [cO]; exact aA9) (lG _ _) h
theorem nD (hgd : o.guard = none) (y z : Operand) (ho : o.op = .store 42 y z) (hx : a.eval y = .pointer (some ⟨b, 0, none⟩)) (p' : Pt) (bk' ev' gv' : Value) (n' : Nat) (hy : a.eval z = .agg (pl n' p' bk' ev' gv').toArray) (hz : ZP w b) (h1 : bk'.oneCell' = true /\ ev'.oneCell' = true /\ gv'.oneCell' = true)
 (h : ∀ w', QP w' b n' p' bk' ev' gv' -> aF (· = b) w w' -> wpList prog ops Q rest (a.put o.dst undef) w') : wpList prog ops Q (o :: rest) a w := by
 obtain ⟨cs, hg, hl⟩ := hz
 have hR : QP (w.setRow b (pl n' p' bk' ev' gv').toArray) b n' p' bk' ev' gv' := aY _ hg
 refine aJ hgd _ y z ho b 0 hx (pl n' p' bk' ev' gv') hy hg (by rw [gE]; exact vP) (by rw [gE, hl]; omega) (aG5 n' p' bk' ev' gv' h1) ?_
 rw [aW _ _ (by rw [hl, gE])]
 exact nU
theorem aJL (hgd : o.guard = none) (y z : Operand) (ho : o.op = .store 40 y z) (hx : a.eval y = .pointer (some ⟨b, 0, none⟩)) (x' : Bx) (bk' ev' : Value) (hy : a.eval z = .agg (ml n x' bk' ev').toArray) (hg : QP w b n p bk ev gv) (h1 : bk'.oneCell' = true /\ ev'.oneCell' = true)
 (h : ∀ w', QP w' b n { p with x := x' } bk' ev' gv -> aF (· = b) w w' -> wpList prog ops Q rest (a.put o.dst undef) w') : wpList prog ops Q (o :: rest) a w := by
 have e : bR (pl n p bk ev gv).toArray 0 (ml n x' bk' ev') = (pl n { p with x := x' } bk' ev' gv).toArray := by
  unfold pl
  rw [aAX _ _ _ (by rw [cO, cO])]
  rfl
 have hR : QP (w.setRow b (pl n { p with x := x' } bk' ev' gv).toArray) b n { p with x := x' } bk' ev' gv := aY _ hg
 refine aJ hgd _ y z ho b 0 hx (ml n x' bk' ev') hy hg (by rw [cO]; exact aA9) (by rw [cO, List.size_toArray, gE]; omega) (aAG n x' bk' ev' h1.1 h1.2) ?_
 rw [e]
 exact nU
end
theorem aOu {fn : Func} {q : Tmp} (h : fn.results = #[.cell q 42]) (tmps : Array Value) (w : World) {b n : Nat} {p : Pt} {bk ev gv : Value} (hp : tmps[q]? = some (.pointer (some ⟨b, 0, none⟩))) (hg : QP w b n p bk ev gv) :
 (results fn tmps).run prog w = .ok (.agg (pl n p bk ev gv).toArray) w :=
 aS h tmps w b 0 _ (pl n p bk ev gv) hp hg underlying42 rfl (by rw [gE]; exact vP) (aL _)
theorem aKg {fn : Func} {q r : Tmp} (h : fn.results = #[.cell q 42, .tmp r]) (tmps : Array Value) (w : World) {b n : Nat} {p : Pt} {bk ev gv : Value} (y : Value) (hp : tmps[q]? = some (.pointer (some ⟨b, 0, none⟩))) (hq : tmps[r]? = some y) (hg : QP w b n p bk ev gv) :
 (results fn tmps).run prog w = .ok (.tuple #[.agg (pl n p bk ev gv).toArray, y]) w :=
 bE h tmps w b 0 _ (pl n p bk ev gv) y hp hq hg underlying42 rfl (by rw [gE]; exact vP) (aL _)
theorem wE {P : Prop} (h : P := by
 simp [results, h, hp, hr, hu, asAddr, fC w b 0 _ _ _ _ _ (pl n p bk ev gv) hg underlying42 rfl (by rw [gE]; exact vP) (aL _)]
 ) : P := h
theorem aOv {fn : Func} {q r u : Tmp} (h : fn.results = #[.cell q 42, .tmp r, .tmp u]) (tmps : Array Value) (w : World) {b n : Nat} {p : Pt} {bk ev gv : Value} (y z : Value) (hp : tmps[q]? = some (.pointer (some ⟨b, 0, none⟩))) (hr : tmps[r]? = some y) (hu : tmps[u]? = some z) (hg : QP w b n p bk ev gv) :
 (results fn tmps).run prog w = .ok (.tuple #[.agg (pl n p bk ev gv).toArray, y, z]) w := by
 exact wE
structure jV (w0 w : World) (b r n c : Nat) (p : Pt) (bk ev gv : Value) (s : Nat) : Prop where
 h : QP w b n p bk ev gv
 z : ZP w r
 M : MV w c p.x bk ev
 G : jW s w gv p.gs
 lo : Below w0.heap.size w0 w
 hb : w0.heap.size <= b
 hr : w0.heap.size <= r
 ne : b ≠ r
 sb : s <= w0.heap.size
section
variable {w0 w w' : World} {b r n c s : Nat} {p : Pt} {bk ev gv : Value}
theorem jV.one (F : jV w0 w b r n c p bk ev gv s) : bk.oneCell' = true /\ ev.oneCell' = true /\ gv.oneCell' = true := ⟨F.M.one.1, F.M.one.2, F.G.one⟩
theorem jV.below (F : jV w0 w b r n c p bk ev gv s) (hb : Below w.heap.size w w') : jV w0 w' b r n c p bk ev gv s := ⟨F.h.below hb, F.z.below hb, F.M.below hb, F.G.below hb, tr F.lo hb, F.hb, F.hr, F.ne, F.sb⟩
theorem jV.turn {p' : Pt} (F : jV w0 w b r n c p bk ev gv s) (h : QP w' b n p' bk ev gv) (ho : aF (· = b) w w') (hx : p'.x = p.x) (hg : p'.gs = p.gs) : jV w0 w' b r n c p' bk ev gv s :=
 ⟨h, F.z.off ho (fun e => F.ne e.symm), by rw [hx]; exact oF F.M ho F.h, by rw [hg]; exact pX F.G (Nat.le_trans F.sb F.hb) ho F.h, aF.toBelow F.lo ho (fun k hk e => by have := F.hb; omega) (Nat.le_refl _), F.hb, F.hr, F.ne, F.sb⟩
theorem jV.board {x' : Bx} {bk' ev' : Value} (F : jV w0 w b r n c p bk ev gv s) (M' : MV w c x' bk' ev') (h : QP w' b n { p with x := x' } bk' ev' gv) (ho : aF (· = b) w w') : jV w0 w' b r n c { p with x := x' } bk' ev' gv s :=
 ⟨h, F.z.off ho (fun e => F.ne e.symm), oF M' ho F.h, pX F.G (Nat.le_trans F.sb F.hb) ho F.h, aF.toBelow F.lo ho (fun k hk e => by have := F.hb; omega) (Nat.le_refl _), F.hb, F.hr, F.ne, F.sb⟩
end
def aNb (n c : Nat) (p : Pt) (gv : Value) (w : World) (e : Ending) (w' : World) : Prop := ∃ bk ev, e = .returned (.agg (pl n p bk ev gv).toArray) /\ MV w' c p.x bk ev /\ Below w.heap.size w w'
def oP (n c : Nat) (p : Pt) (gv v : Value) (w : World) (e : Ending) (w' : World) : Prop := ∃ bk ev, e = .returned (.tuple #[.agg (pl n p bk ev gv).toArray, v]) /\ MV w' c p.x bk ev /\ Below w.heap.size w w'
def aDK (n c : Nat) (p : Pt) (gv v u : Value) (w : World) (e : Ending) (w' : World) : Prop := ∃ bk ev, e = .returned (.tuple #[.agg (pl n p bk ev gv).toArray, v, u]) /\ MV w' c p.x bk ev /\ Below w.heap.size w w'
theorem gJ {w0 w w' : World} {b r n c s : Nat} {p : Pt} {bk ev gv : Value} (F : jV w0 w b r n c p bk ev gv s) (ho : aF (· = r) w w') : MV w' c p.x bk ev /\ Below w0.heap.size w0 w' := by
 obtain ⟨cs, h1, h2⟩ := F.z
 exact ⟨oF F.M ho h1, aF.toBelow F.lo ho (fun k hk e => by have := F.hr; omega) (Nat.le_refl _)⟩
theorem iI (w : World) (n c : Nat) (p : Pt) (bk ev gv : Value) (s : Nat) (hs : s <= w.heap.size) (M : MV w c p.x bk ev) (G : jW s w gv p.gs) : jV w ((w.alloc (fW n p bk ev gv)).alloc dI) w.heap.size (w.heap.size + 1) n c p bk ev gv s :=
 have hb := aE (aE (aH w) (fW n p bk ev gv)) dI
 ⟨bM w _ _, ZP.new w (bU w _ _), M.below hb, G.below hb, hb, Nat.le_refl _, Nat.le_succ _, Nat.ne_of_lt (Nat.lt_succ_self _), hs⟩
theorem aDU (n c : Nat) (p : Pt) (bk ev gv : Value) (w : World) (M : MV w c p.x bk ev) (hse : p.se <= p.x.es.length) :
 Calls prog 48 #[.agg (pl n p bk ev gv).toArray] w fun e w' => e = .returned (.bool p.dn) /\ Below w.heap.size w w' := by
 obtain ⟨y, cap, rfl, _⟩ := pU M.e
 have hq : QP (w.alloc (fW n p bk (.slice y p.x.es.length cap) gv)) w.heap.size n p bk (.slice y p.x.es.length cap) gv := aD w _
 have hb := aE (aH w) (fW n p bk (.slice y p.x.es.length cap) gv)
 clear M
 by_cases h : p.se < p.x.es.length
 . have hd : p.dn = true := by unfold Pt.dn; exact decide_eq_true h
   have hne : ((p.x.es.length : Int) != (p.se : Int)) = true := by simp; omega
   rw [hd]
   clear hd
   go_enter func48, ntmps48
   go_upto_region 1 with (fail)
   rw [cP]
   generalize w.alloc (fW n p bk (.slice y p.x.es.length cap) gv) = W at *
   have cE := hq.cE
   have cD := hq.cD
   exact bS
 . have hd : p.dn = false := by unfold Pt.dn; exact decide_eq_false h
   have hne : ((p.x.es.length : Int) != (p.se : Int)) = false := by simp; omega
   rw [hd]
   clear hd
   go_enter func48, ntmps48
   go_upto_region 1 with (fail)
   rw [cP]
   generalize w.alloc (fW n p bk (.slice y p.x.es.length cap) gv) = W at *
   have cE := hq.cE
   have cD := hq.cD
   exact bS
structure Fit (s n c m : Nat) (p : Pt) (bk ev gv : Value) (w : World) : Prop where
 M : MV w c p.x bk ev
 G : jW s w gv p.gs
 ok : p.x.ok n c
 st : p.x.still
 po : p.ok m
 hm : m < 4294967290
 sb : s <= w.heap.size
theorem Fit.below {s n c m : Nat} {p : Pt} {bk ev gv : Value} {w w' : World} (F : Fit s n c m p bk ev gv w) (hb : Below w.heap.size w w') : Fit s n c m p bk ev gv w' := ⟨F.M.below hb, F.G.below hb, F.ok, F.st, F.po, F.hm, Nat.le_trans F.sb hb.size⟩
theorem aHm {a b i : Nat} (h : a % b = i) : (a : Int).tmod (b : Int) = (i : Int) := by subst h; rw [Int.tmod_eq_emod_of_nonneg (by omega)]; omega
theorem aPd (s n c m : Nat) (p : Pt) (bk ev gv : Value) (w : World) (F : Fit s n c m p bk ev gv w) :
 Calls prog 69 #[.agg (pl n p bk ev gv).toArray] w (aNb n c p.pass gv w) := by
 have hF := iI w n c p bk ev gv s F.sb F.M F.G
 have hgb := Pt.gp_bounds F.po.gs
 have hmd := F.po.md
 have hm := F.hm
 have hs0 := F.po.s0
 have hs1 := F.po.s1
 have hw1 : IntKind.i64.wrap ((p.md : Int) + 1) = (p.md : Int) + 1 := aD9 p.md (by omega)
 have hw2 : IntKind.u64.wrap (p.sp + p.gp) = p.sp + p.gp := IntWalk.u64_in _ (by omega)
 have hel : p.x.es.length < 4294967296 := by have := F.po.es; omega
 have HT := Hd (fun bk ev w' M => aKx n c p.x bk ev p.gp w' M F.ok F.st hgb.1 (by omega) hel)
 have HPP := Hd (show p.pass = { p with md := p.md + 1, sp := p.sp + p.gp, x := p.x.tick p.gp } from rfl)
 have HN := Hd (fun (h : p.gs.length = 0) => Pt.gp_nil h)
 have HG := Hd (fun (i : Nat) (g : Int) (hi : p.md % p.gs.length = i) (h : p.gs[i]? = some g) => Pt.gp_get hi h)
 have HGS := Hd F.po.gs
 clear F hgb hmd hm hs0 hs1 hel
 obtain ⟨y, cap, rfl, h1, h2, h3⟩ := hF.G
 by_cases hN : p.gs.length = 0
 . have hgp := HN.out hN
   rw [hgp, Int.add_zero] at hw2
   rw [hgp] at HT HPP
   rw [Int.add_zero] at HPP
   have HF := Hd hF
   have HL0 := Hd (show Value.slice y p.gs.length cap = Value.slice y 0 cap by rw [hN])
   clear hgp h1 h2 h3 HN HG HGS hF hN
   go_enter func69, ntmps69
   go_upto_region 1 with (fail)
   rw [cP, bH]
   generalize (w.alloc (fW n p bk ev (.slice y p.gs.length cap))).alloc dI = W at *
   generalize w.heap.size + 1 = r at *
   generalize hbn : w.heap.size = b at *
   have cG := HF.out.h.cG
   rw [HL0.out] at cG
   have cM := HF.out.h.cM
   have cS := HF.out.h.cS
   have fM := HF.out.h.free 111
   have fS := HF.out.h.free 112
   have hlb := HF.out.h.lt
   clear hbn HL0
   go_upto_region 6 with (fail)
   have hso1 := aG W b 111 (.int .i64 ((p.md : Int) + 1))
   have F1 := jV.turn (p' := { p with md := p.md + 1 }) HF.out (show QP (W.setCell ⟨b, 111, none⟩ (.int .i64 ((p.md : Int) + 1))) b n { p with md := p.md + 1 } bk ev _ from HF.out.h.setM (p.md + 1)) hso1 rfl rfl
   have hso2 := aG (W.setCell ⟨b, 111, none⟩ (.int .i64 ((p.md : Int) + 1))) b 112 (.int .u64 p.sp)
   have F2 := jV.turn (p' := { p with md := p.md + 1, sp := p.sp }) F1 (F1.h.setS p.sp) hso2 rfl rfl
   clear F1 hso1 hso2 HF hw1 hw2 cG cM cS fM fS hlb
   generalize (W.setCell ⟨b, 111, none⟩ (.int .i64 ((p.md : Int) + 1))).setCell ⟨b, 112, none⟩ (.int .u64 p.sp) = W2 at *
   have HF := Hd F2
   clear F2
   go_upto_region 7 with (first | (refine aGT rfl (.tmp 28) rfl rfl HF.out.h ?_) | (go_at_call 42; refine (HT.out _ _ _ HF.out.M).mono ?_; rintro e w1 ⟨bk', ev', rfl, M', hb⟩; have HM := Hd M'; have HF := Hd (HF.out.below hb); clear M' hb) | (refine aJL rfl (.tmp 32) (.tmp 31) rfl rfl (p.x.tick 0) bk' ev' rfl HF.out.h HM.out.one ?_; intro w2 hq2 ho2; have HF2 := Hd (show jV w w2 b r n c p.pass bk' ev' (.slice y p.gs.length cap) s from by rw [HPP.out]; exact jV.board HF.out HM.out hq2 ho2); clear hq2 ho2))
   go_wp2_with (first | (refine mN rfl (.tmp 1) rfl rfl HF2.out.h ?_) | (refine nD rfl (.tmp 2) (.tmp 33) rfl rfl p.pass bk' ev' (.slice y p.gs.length cap) n rfl HF2.out.z HF2.out.one ?_; intro w9 hq9 ho9; have HX := Hd (gJ HF2.out ho9); have HQ9 := Hd hq9; clear hq9 ho9))
   exact bodyPost_ret (aOu rfl _ _ rfl HQ9.out) rfl ⟨bk', ev', rfl, HX.out.1, HX.out.2⟩
 . obtain ⟨bb, off, rfl, hb, _, hc⟩ := h3.resolve_left hN
   obtain ⟨i, hi⟩ : ∃ i, p.md % p.gs.length = i := ⟨_, rfl⟩
   have hil : i < p.gs.length := by rw [<- hi]; exact Nat.mod_lt _ (Nat.pos_of_ne_zero hN)
   obtain ⟨g, hgi⟩ : ∃ g, p.gs[i]? = some g := ⟨_, List.getElem?_eq_getElem hil⟩
   have hgb := HGS.out g (List.mem_of_getElem? hgi)
   have hgp := HG.out i g hi hgi
   rw [hgp] at hw2 HT HPP
   have ci := hc i g hgi
   have hrem : (p.md : Int).tmod (p.gs.length : Int) = (i : Int) := aHm hi
   have hgt : decide ((0 : Int) < (p.gs.length : Int)) = true := decide_eq_true (Int.ofNat_lt.2 (Nat.pos_of_ne_zero hN))
   have HF := Hd hF
   have hgc := bC
   clear HN HG HGS h3 hc hi hgi hgp hF
   go_enter func69, ntmps69
   go_upto_region 1 with (fail)
   rw [cP, bH]
   generalize (w.alloc (fW n p bk ev (.slice (some ⟨bb, off, none⟩) p.gs.length cap))).alloc dI = W at *
   generalize w.heap.size + 1 = r at *
   generalize hbn : w.heap.size = b at *
   clear hbn
   have cG := HF.out.h.cG
   have cM := HF.out.h.cM
   have hlb := HF.out.h.lt
   go_upto_region 3 with (fail)
   refine wp_region_quiet_below (by kernel_rfl) (by kernel_rfl) ?_
   repeat (go_big_quiet_step (fail))
   refine wpQuiet_nil ?_
   intro _ hw'
   obtain ⟨⟨dq, osq⟩, hw''⟩ := hw'
   subst hw''
   have HF := Hd (HF.out.below (below_regrown W dq osq))
   clear cG cM hlb ci hb hgc
   dsimp only at HF ⊢
   generalize grow (redrawn W dq) osq = W at *
   have cM := HF.out.h.cM
   have cS := HF.out.h.cS
   have fM := HF.out.h.free 111
   have fS := HF.out.h.free 112
   have hlb := HF.out.h.lt
   go_upto_region 6 with (fail)
   have hso1 := aG W b 111 (.int .i64 ((p.md : Int) + 1))
   have F1 := jV.turn (p' := { p with md := p.md + 1 }) HF.out (show QP (W.setCell ⟨b, 111, none⟩ (.int .i64 ((p.md : Int) + 1))) b n { p with md := p.md + 1 } bk ev _ from HF.out.h.setM (p.md + 1)) hso1 rfl rfl
   have hso2 := aG (W.setCell ⟨b, 111, none⟩ (.int .i64 ((p.md : Int) + 1))) b 112 (.int .u64 (p.sp + g))
   have F2 := jV.turn (p' := { p with md := p.md + 1, sp := (p.sp + g) }) F1 (F1.h.setS (p.sp + g)) hso2 rfl rfl
   clear F1 hso1 hso2 HF hw1 hw2 cM cS fM fS hlb
   generalize (W.setCell ⟨b, 111, none⟩ (.int .i64 ((p.md : Int) + 1))).setCell ⟨b, 112, none⟩ (.int .u64 (p.sp + g)) = W2 at *
   have HF := Hd F2
   clear F2
   go_upto_region 7 with (first | (refine aGT rfl (.tmp 28) rfl rfl HF.out.h ?_) | (go_at_call 42; refine (HT.out _ _ _ HF.out.M).mono ?_; rintro e w1 ⟨bk', ev', rfl, M', hb⟩; have HM := Hd M'; have HF := Hd (HF.out.below hb); clear M' hb) | (refine aJL rfl (.tmp 32) (.tmp 31) rfl rfl (p.x.tick g) bk' ev' rfl HF.out.h HM.out.one ?_; intro w2 hq2 ho2; have HF2 := Hd (show jV w w2 b r n c p.pass bk' ev' (.slice (some ⟨bb, off, none⟩) p.gs.length cap) s from by rw [HPP.out]; exact jV.board HF.out HM.out hq2 ho2); clear hq2 ho2))
   go_wp2_with (first | (refine mN rfl (.tmp 1) rfl rfl HF2.out.h ?_) | (refine nD rfl (.tmp 2) (.tmp 33) rfl rfl p.pass bk' ev' (.slice (some ⟨bb, off, none⟩) p.gs.length cap) n rfl HF2.out.z HF2.out.one ?_; intro w9 hq9 ho9; have HX := Hd (gJ HF2.out ho9); have HQ9 := Hd hq9; clear hq9 ho9))
   exact bodyPost_ret (aOu rfl _ _ rfl HQ9.out) rfl ⟨bk', ev', rfl, HX.out.1, HX.out.2⟩
end Go.Proofs.YtaohacadochldaaGreat.B
