/- A part of the proof of a law of layer 12: bq. -/
import Derived.Test.YtealhichdbimlaaGreatZCbp
set_option linter.unusedVariables false
set_option linter.unusedSimpArgs false
set_option maxHeartbeats 12800000
set_option maxRecDepth 100000
namespace Go.Proofs.YtealhichdbimlaaGreat.B
open Go.Proofs.Tryz
open Go.ChangeShapes Go.WideShapes Go.RowKit Go.Sort
theorem Pt.stp_gs {n c : Nat} {p : Pt} (a v : Int) : (p.stp n c a v).gs = p.gs := by
 unfold Pt.stp
 split
 . rfl
 . split <;> rfl
theorem Pt.ldp_gs {p : Pt} : p.ldp.gs = p.gs := by
 unfold Pt.ldp
 split <;> rfl
structure Bo (s n c m : Nat) (w : World) (q : Nat) (B : Bp) (p : Pt) (gv bk ev dv : Value) : Prop where
 H : aV w q B p gv
 nw : B.new s
 sq : s <= q
 en : B.n = n
 ec : B.c = c
 F : Fit s n c m p bk ev dv w
section
variable {s n c m : Nat} {w w' : World} {q : Nat} {B : Bp} {p : Pt} {gv bk ev dv : Value}
theorem Bo.below (b : Bo s n c m w q B p gv bk ev dv) (hb : Below w.heap.size w w') : Bo s n c m w' q B p gv bk ev dv := ⟨b.H.below hb, b.nw, b.sq, b.en, b.ec, b.F.below hb⟩
theorem aV.offk {k : Nat} {cs : Array Value} {T : TypeId} {f : Nat × Nat} (H : aV w q B p gv) (ho : aF (· = k) w w') (hk : w.heap[k]? = some (.cells cs T f)) (h1 : aFH (T + 1) = false) (h2 : (T == tPt) = false) (h3 : gK (T + 1) = false) : aV w' q B p gv :=
 ⟨ho.at H.cell (fun e => aK H.cell hk (by cases h : (tPt == T) ; rfl; rw [beq_iff_eq.1 h] at h2; simp at h2) e), H.bd.offk ho hk h1, H.g.off ho fun j _ hj e => by
  rcases hj with hj | hj
  . omega
  . rw [e, bM hk, h3] at hj; cases hj⟩
theorem Bo.offP {r : Nat} {cs : Array Value} (b : Bo s n c m w q B p gv bk ev dv) (ho : aF (· = r) w w') (hr : w.heap[r]? = some (.cells cs aC8 (0, 0))) (hs : s <= r) : Bo s n c m w' q B p gv bk ev dv :=
 ⟨b.H.offk ho hr (by decide) rfl (by decide), b.nw, b.sq, b.en, b.ec, iY b.F.M ho hr, nS b.F.G hs ho hr, b.F.ok, b.F.st, b.F.po, b.F.hm, Nat.le_trans b.F.sb ho.size⟩
theorem Bo.le {k : Nat} (b : Bo s n c m w q B p gv bk ev dv) (h : m <= k) (hk : k < 4294967290) : Bo s n c k w q B p gv bk ev dv := ⟨b.H, b.nw, b.sq, b.en, b.ec, b.F.M, b.F.G, b.F.ok, b.F.st, b.F.po.le h, hk, b.F.sb⟩
end
structure rU (w0 w : World) (s b n : Nat) (p : Pt) (bk ev dv : Value) (K a v : Int) (gA : Value) (N : Int) : Prop where
 h : QP w b n p bk ev dv
 a : w.heap[b + 1]? = some (iJ K a v gA N)
 z : ZP w (b + 2)
 lo : Below s w0 w
 kq : Kq w0 w
 sb : s <= w0.heap.size
 b0 : w0.heap.size <= b
section
variable {w0 w w' : World} {s b n : Nat} {p : Pt} {bk ev dv gA : Value} {K a v N : Int}
theorem rU.ss (F : rU w0 w s b n p bk ev dv K a v gA N) : s <= w.heap.size := Nat.le_trans F.sb F.lo.size
theorem rU.step (F : rU w0 w s b n p bk ev dv K a v gA N) (kq : Kq w w') (lo : Below s w w') : rU w0 w' s b n p bk ev dv K a v gA N :=
 ⟨F.h.kq kq, kq _ _ _ _ F.a (by decide) rfl, F.z.kq kq, F.lo.trans lo, F.kq.trans kq, F.sb, F.b0⟩
theorem rU.below (F : rU w0 w s b n p bk ev dv K a v gA N) (hb : Below w.heap.size w w') : rU w0 w' s b n p bk ev dv K a v gA N := F.step (Kq.ofBelow hb) (hb.mono F.ss)
theorem rU.turn {p' : Pt} {bk' ev' dv' : Value} (F : rU w0 w s b n p bk ev dv K a v gA N) (h : QP w' b n p' bk' ev' dv') (ho : aF (· = b) w w') : rU w0 w' s b n p' bk' ev' dv' K a v gA N :=
 ⟨h, ho.at F.a (by omega), F.z.off ho (by omega), aF.toBelow F.lo ho (fun k hk e => by have := F.b0; have := F.sb; omega) F.sb, fun k cs T f hk h1 h2 => ho.at (F.kq k cs T f hk h1 h2) fun e => by have := lt_of_block hk; have := F.b0; omega, F.sb, F.b0⟩
theorem rU.x0 (F : rU w0 w s b n p bk ev dv K a v gA N) : w.cell? ⟨b + 1, 0, none⟩ = some (.int .i64 K) := by have := aA F.a 0; simpa using this
theorem rU.x1 (F : rU w0 w s b n p bk ev dv K a v gA N) : w.cell? ⟨b + 1, 1, none⟩ = some (.int .u32 a) := by have := aA F.a 1; simpa using this
theorem rU.x2 (F : rU w0 w s b n p bk ev dv K a v gA N) : w.cell? ⟨b + 1, 2, none⟩ = some (.int .u32 v) := by have := aA F.a 2; simpa using this
theorem rU.x3 (F : rU w0 w s b n p bk ev dv K a v gA N) : w.cell? ⟨b + 1, 3, none⟩ = some gA := by have := aA F.a 3; simpa using this
theorem rU.x4 (F : rU w0 w s b n p bk ev dv K a v gA N) : w.cell? ⟨b + 1, 4, none⟩ = some (.int .u64 N) := by have := aA F.a 4; simpa using this
theorem aIP (w : World) (s n : Nat) (p : Pt) (bk ev dv : Value) (K a v : Int) (gA : Value) (N : Int) (hs : s <= w.heap.size) : rU w (((w.alloc (fV n p bk ev dv)).alloc (iJ K a v gA N)).alloc cY) s w.heap.size n p bk ev dv K a v gA N := by
 have hb := aE (aE (aE (aI w) (fV n p bk ev dv)) (iJ K a v gA N)) cY
 exact ⟨aB4 w _ _ _, aB5 w _ _ _, ZP.new w (aB6 w _ _ _), hb.mono hs, Kq.ofBelow hb, hs, Nat.le_refl _⟩
end
def aAa (s n c m : Nat) (w0 : World) (e : Ending) (w' : World) : Prop := ∃ q C p gv bk ev dv, e = .returned (.tuple #[.pointer (some ⟨q, 0, none⟩), .agg (pl n p bk ev dv).toArray, .bool true]) /\ Bo s n c (m + 1) w' q C p gv bk ev dv /\ Below s w0 w' /\ Kq w0 w'
theorem kN {w0 w w' : World} {s b n c m : Nat} {p0 p : Pt} {bk0 ev0 dv0 gv bk ev dv gA : Value} {K a v N : Int} {q : Nat} {C : Bp} (F : rU w0 w s b n p0 bk0 ev0 dv0 K a v gA N) (bo : Bo s n c (m + 1) w q C p gv bk ev dv) (ho : aF (· = b + 2) w w') :
 aAa s n c m w0 (.returned (.tuple #[.pointer (some ⟨q, 0, none⟩), .agg (pl n p bk ev dv).toArray, .bool true])) w' := by
 obtain ⟨cs, h1, h2⟩ := F.z
 have h3 := F.b0
 have h4 := F.sb
 refine ⟨q, C, p, gv, bk, ev, dv, rfl, bo.offP ho h1 (by omega), aF.toBelow F.lo ho (fun k hk e => by omega) F.sb, fun k cs T f hk hT hP => ?_⟩
 exact ho.at (F.kq k cs T f hk hT hP) fun e => by have := lt_of_block hk; omega
structure Ar (s n c m q : Nat) (B : Bp) (p : Pt) (gv bk ev dv : Value) (a v : Int) (gA : Value) (gs : List Int) (N : Int) (w : World) : Prop where
 bo : Bo s n c m w q B p gv bk ev dv
 hm : m < 4294967280
 G : jU s w gA gs
 hgs : ∀ g ∈ gs, 0 <= g /\ g < 4294967296
 n0 : 0 <= N
 n1 : N < 18446744073709551616
 a0 : 0 <= a
 a1 : a < 4294967296
 v0 : 0 <= v
 v1 : v < 4294967296
def DoC (s n c m q : Nat) (p : Pt) (bk ev dv : Value) (K a v : Int) (gA : Value) (N : Int) (w : World) : Prop :=
 Calls prog 29 #[.pointer (some ⟨q, 0, none⟩), .agg (pl n p bk ev dv).toArray, .agg #[.int .i64 K, .int .u32 a, .int .u32 v, gA, .int .u64 N]] w (aAa s n c m w)
section
variable {s n c m q : Nat} {B : Bp} {p : Pt} {gv bk ev dv : Value} {a v : Int} {gA : Value} {gs : List Int} {N : Int} {w : World}
theorem Ar.f (A : Ar s n c m q B p gv bk ev dv a v gA gs N w) (K : Int) : rU w (((w.alloc (fV n p bk ev dv)).alloc (iJ K a v gA N)).alloc cY) s w.heap.size n p bk ev dv K a v gA N := aIP w s n p bk ev dv K a v gA N A.bo.F.sb
theorem Ar.b (A : Ar s n c m q B p gv bk ev dv a v gA gs N w) (K : Int) : Bo s n c m (((w.alloc (fV n p bk ev dv)).alloc (iJ K a v gA N)).alloc cY) q B p gv bk ev dv := A.bo.below (aE (aE (aE (aI w) _) _) _)
theorem Ar.g (A : Ar s n c m q B p gv bk ev dv a v gA gs N w) (K : Int) : jU s (((w.alloc (fV n p bk ev dv)).alloc (iJ K a v gA N)).alloc cY) gA gs := A.G.below (aE (aE (aE (aI w) _) _) _)
theorem Ar.el (A : Ar s n c m q B p gv bk ev dv a v gA gs N w) : p.x.es.length < 4294967290 := by have := A.bo.F.po.es; have := A.hm; omega
theorem Ar.po (A : Ar s n c m q B p gv bk ev dv a v gA gs N w) : p.ok m := A.bo.F.po
theorem Ar.ps (A : Ar s n c m q B p gv bk ev dv a v gA gs N w) : (p.x.tick p.gp).still := have g := Pt.gp_bounds A.bo.F.po.gs; (Bx.tick_ok A.bo.F.ok A.bo.F.st (N := p.gp) g.1 (by omega)).2
end
theorem aBS {o : Oper} {f : Operand -> Value} {w : World} {b n : Nat} {p : Pt} {bk ev gv : Value} (y : Operand) (ho : o.op = .load 43 y) (hx : f y = .pointer (some ⟨b, 0, none⟩)) (hg : QP w b n p bk ev gv) : (execOp f o).run prog w = .ok (.value (.agg (pl n p bk ev gv).toArray)) w :=
 kT _ y ho b 0 hx _ (pl n p bk ev gv) hg underlying43 rfl (by rw [fY]; exact vH) (aL _)
theorem jI {ops : Array Oper} {o : Oper} {a : Act} {w : World} {K : Act -> World -> Prop} {Q : Exit -> Act -> World -> Prop} {E : Prop} (hgd : o.guard = none) (y z : Operand) (ho : o.op = .store 43 y z) {b : Nat} (hx : a.eval y = .pointer (some ⟨b, 0, none⟩)) (n' : Nat) (p' : Pt) (bk' ev' gv' : Value) (hy : a.eval z = .agg (pl n' p' bk' ev' gv').toArray) (hz : ZP w b) (h1 : bk'.oneCell' = true /\ ev'.oneCell' = true /\ gv'.oneCell' = true)
 (h : ∀ w', QP w' b n' p' bk' ev' gv' -> aF (· = b) w w' -> K (a.put o.dst undef) w') : if Region.wanted o (yielded ops a.tmps) = true then Oper.wp prog o a w K Q else E := by
 obtain ⟨cs, hg, hl⟩ := hz
 have hR : QP (w.setRow b (pl n' p' bk' ev' gv').toArray) b n' p' bk' ev' gv' := aZ _ hg
 refine mE hgd _ y z ho b 0 hx (pl n' p' bk' ev' gv') hy hg (by rw [fY]; exact vH) (by rw [fY, hl]; omega) (aG4 n' p' bk' ev' gv' h1) ?_
 rw [aX _ _ (by rw [hl, fY])]
 exact nN
theorem tZ {w w' : World} {q r n : Nat} {p : Pt} {bk ev gv : Value} (h : QP w q n p bk ev gv) (ho : aF (· = r) w w') (hN : QP w' r n p bk ev gv) : QP w' q n p bk ev gv := by
 by_cases hq : q = r
 . rw [hq]; exact hN
 . exact ho.at h hq
theorem aOz {fn : Func} {q r u : Tmp} (h : fn.results = #[.tmp r, .cell q 43, .tmp u]) (tmps : Array Value) (w : World) {b n : Nat} {p : Pt} {bk ev gv : Value} (y z : Value) (hr : tmps[r]? = some y) (hp : tmps[q]? = some (.pointer (some ⟨b, 0, none⟩))) (hu : tmps[u]? = some z) (hg : QP w b n p bk ev gv) :
 (results fn tmps).run prog w = .ok (.tuple #[y, .agg (pl n p bk ev gv).toArray, z]) w := by
 exact vX
structure sX (w : World) (q r : Nat) (B C : Bp) (p p2 : Pt) (gv gv2 : Value) : Prop where
 one : aV w q B p gv
 two : aV w r C p2 gv2
 ap : ∀ k, C.all k \/ k = r -> ¬ (k = q \/ B.own k)
section
variable {w w' : World} {q r : Nat} {B C : Bp} {p p2 p3 : Pt} {gv gv2 gv3 : Value}
theorem sX.below (T : sX w q r B C p p2 gv gv2) (hb : Below w.heap.size w w') : sX w' q r B C p p2 gv gv2 := ⟨T.one.below hb, T.two.below hb, T.ap⟩
theorem aE4 (H : aV w q B p gv) (h : C.new w.heap.size) : ∀ k, C.all k -> ¬ (k = q \/ B.own k) := fun k hk hS => by
 have h4 := h k hk
 rcases hS with e | e
 . have := H.lt; omega
 . have := H.bd.lt (.inl e); omega
theorem aDA (H : aV w q B p gv) (hp : aV w' r C p2 gv2) (ha : ∀ k, C.all k -> ¬ (k = q \/ B.own k)) (hb : Below w.heap.size w w') (hr : w.heap.size <= r) : sX w' q r B C p p2 gv gv2 :=
 ⟨H.below hb, hp, fun k hk hS => by
  rcases hk with hk | rfl
  . exact ha k hk hS
  . rcases hS with e | e
    . have := H.lt; omega
    . have := H.bd.lt (.inl e); omega⟩
theorem aV.offS {S : Nat -> Prop} (H : aV w r C p2 gv2) (ho : aF S w w') (ha : ∀ k, C.all k \/ k = r -> ¬ S k) (hg : ∀ k, gK (kd w k) = true -> ¬ S k) : aV w' r C p2 gv2 :=
 ⟨ho.at H.cell (ha r (.inr rfl)), H.bd.off ho fun k hk => ha k (.inl hk), H.g.off ho fun k _ hk => by
  rcases hk with hk | hk
  . omega
  . exact hg k hk⟩
theorem sX.left (T : sX w q r B C p p2 gv gv2) (L : aS q B p3 gv3 w w') : ∃ ev', sX w' q r { B with ev := ev' } C p3 p2 gv3 gv2 /\ aF (fun k => k = q \/ B.own k) w w' /\ ∀ k, ev'.ownBlock = some k -> B.ev.ownBlock = some k \/ w.heap.size <= k := by
 obtain ⟨ev', h, ho, he⟩ := L
 have h2 := T.two.offS ho T.ap fun k hk => by
  rintro (e | e)
  . exact T.one.noG hk e
  . have := T.one.bd.ownKd e; rw [(tQ hk).1] at this; cases this
 refine ⟨ev', ⟨h, h2, fun k hk hS => ?_⟩, ho, he⟩
 rcases hS with e | e | e | e
 . exact T.ap k hk (.inl e)
 . exact T.ap k hk (.inr (.inl e))
 . exact T.ap k hk (.inr (.inr (.inl e)))
 . rcases he k e with e | e
   . exact T.ap k hk (.inr (.inr (.inr e)))
   . rcases hk with hk | hk
     . have := T.two.bd.lt hk; omega
     . have := T.two.lt; omega
end
structure P12 (w0 w : World) (b n c k q : Nat) (C : Bp) (p : Pt) (gv bk ev dv : Value) : Prop where
 bo : Bo w0.heap.size n c k w q C p gv bk ev dv
 N : QP w b n p bk ev dv
 lo : Below w0.heap.size w0 w
 hp : w0.heap.size <= b
theorem P12.below {w0 w w' : World} {b n c k q : Nat} {C : Bp} {p : Pt} {gv bk ev dv : Value} (P : P12 w0 w b n c k q C p gv bk ev dv) (hb : Below w.heap.size w w') : P12 w0 w' b n c k q C p gv bk ev dv := ⟨P.bo.below hb, P.N.below hb, tr P.lo hb, P.hp⟩
theorem aEs (w w5 w6 : World) (n c q : Nat) (B : Bp) (x0 : Bx) (gs : List Int) (gv bk ev dv : Value) (HP : aV w5 q B ⟨x0, gs, 0, 0, 0⟩ gv) (hnw : B.new w.heap.size) (hsq : w.heap.size <= q) (he : B.n = n /\ B.c = c) (M : MV w5 c x0 bk ev) (G : jU w.heap.size w5 dv gs) (hb : Below w.heap.size w w5)
 (hx : x0.told /\ x0.es.length = 0) (hl : gs.length <= 64) (hg : ∀ g ∈ gs, 0 <= g /\ g < 4294967296) (hq : QP w6 w5.heap.size n ⟨x0, gs, 0, 0, 0⟩ bk ev dv) (hb6 : Below w5.heap.size w5 w6) : P12 w w6 w5.heap.size n c 0 q B ⟨x0, gs, 0, 0, 0⟩ gv bk ev dv :=
 ⟨⟨HP.below hb6, hnw, hsq, he.1, he.2, ⟨M.below hb6, G.below hb6, by have := HP.bd.ok; rw [he.1, he.2] at this; exact this, HP.bd.still, ⟨hx.1, Nat.zero_le _, by rw [hx.2]; exact Nat.le_refl _, Nat.le_refl _, Int.le_refl _, (by show (0 : Int) <= ((0 : Nat) : Int) * 4294967295; omega), hl, hg⟩, by omega, Nat.le_trans hb.size hb6.size⟩⟩, hq, tr hb hb6, hb.size⟩
section
variable {s n c m q : Nat} {B : Bp} {p : Pt} {gv bk ev dv : Value} {K a v : Int} {gA : Value} {gs : List Int} {N : Int} {w : World}
theorem gJ {P : Prop} (h : P := by
 simp only [iF, iH, iG, Act.put, dG, dI, dH]
 clear hS9
 refine wpAnyH_done (by kernel_rfl) ?_ _
 go_wp2_with fail
 exact bodyPost_ret (aOz rfl _ _ _ _ rfl rfl rfl hN9) rfl HX.out
 ) : P := h
theorem aOh (A : Ar s n c m q B p gv bk ev dv a v gA gs N w) (hK : K = 0) : DoC s n c m q p bk ev dv K a v gA N w := by
 have HF := Hd (A.f K)
 have HB := Hd (A.b K)
 have HG := Hd (A.g K)
 have HA := Hd A
 clear A
 unfold DoC
 subst hK
 obtain ⟨yA, capA, rfl, _, _, hyA⟩ := HG.out
 go_enter func29, ntmps29
 go_upto_region 1 with (fail)
 rw [cU, bE, show Obj.cells #[.int .i64 0, .int .u32 a, .int .u32 v, (.slice yA gs.length capA), .int .u64 N] 78 (0, 0) = iJ 0 a v (.slice yA gs.length capA) N from rfl]
 generalize ((w.alloc (fV n p bk ev dv)).alloc (iJ 0 a v (.slice yA gs.length capA) N)).alloc cY = W at *
 have x0 := HF.out.x0
 obtain ⟨V, hV⟩ : ∃ V, p.ldv n c a = V := ⟨_, rfl⟩
 obtain ⟨E, hE⟩ : ∃ E, p.lde n c a = E := ⟨_, rfl⟩
 have CL := Hd (fun w' (b : Bo s n c m w' q B p gv bk ev (dv)) => by have := aDs q B p gv m a w' b.H b.F.po b.F.hm HA.out.a0 HA.out.a1; rw [b.en, b.ec, hV, hE] at this; exact this)
 have RL := Hd (fun w' (F : Fit s n c m p bk ev dv w') => by have := tI s n c m p bk ev dv a HA.out.a0 HA.out.a1 w' F HA.out.hm; rw [hV, hE] at this; exact this)
 have zV := beq_self_eq_true V
 have zE := beq_self_eq_true E
 clear hV hE
 have x1 := HF.out.x1
 go_upto_region 4 with (first | (refine jN rfl (.tmp 4) rfl rfl HF.out.h ?_) | (go_at_call 30; refine (RL.out _ HB.out.F).mono ?_; rintro e W1 ⟨bk', ev', rfl, M1, hb⟩; have HF := Hd (HF.out.below hb); have HB := Hd (HB.out.below hb); have HM1 := Hd M1; clear hb M1 x1 x0) | (rw [bE]; refine kK rfl (.tmp 9) (.tmp 29) rfl rfl p.ldp bk' ev' dv n rfl (ZP.new W1 (aD W1 cY)) ⟨HM1.out.one.1, HM1.out.one.2, HB.out.F.G.one⟩ ?_; intro W2 hq2 ho2; have hb := lH (aE (aI W1) cY) ho2 (Nat.le_refl _) (Nat.le_refl _); have HF := Hd (HF.out.below hb); have HB := Hd (HB.out.below hb); have HM1 := Hd (HM1.out.below hb); have HN2 := Hd hq2; clear hb hq2 ho2))
 generalize W1.heap.size = r at *
 have x1 := HF.out.x1
 go_upto_region 5 with (go_at_call 32; refine (CL.out _ HB.out).mono ?_; rintro e W3 ⟨rfl, hL⟩; obtain ⟨C, LC⟩ := hL.lp HB.out.H HB.out.nw HB.out.sq HF.out.ss; have HF := Hd (HF.out.step LC.kq LC.lo); have HM1 := Hd (HM1.out.kq LC.kq); have HN2 := Hd (HN2.out.kq LC.kq); have HB := Hd (show Bo s n c (m + 1) W3 q C p.ldp gv bk' ev' dv from ⟨LC.h, LC.nw, HB.out.sq, LC.n.trans HB.out.en, LC.c.trans HB.out.ec, HM1.out, by rw [Pt.ldp_gs]; exact HB.out.F.G.kq LC.kq LC.lo, by have := LC.h.bd.ok; rw [LC.n, LC.c, HB.out.en, HB.out.ec] at this; exact this, LC.h.bd.still, Pt.ldp_ok HA.out.po HB.out.F.st HB.out.F.hm, by have := HA.out.hm; omega, Nat.le_trans HB.out.F.sb LC.lo.size⟩); clear LC hL x1)
 have HF := Hd (HF.out.below (jT (aI W3)))
 have HB := Hd (HB.out.below (jT (aI W3)))
 have HN2 := Hd (HN2.out.below (jT (aI W3)))
 refine wp_region_held_drew (S := fun w' => QP w' r n p.ldp bk' ev' dv) (by kernel_rfl) HN2.out (fun _ => ?_)
 generalize W3.drew = W5 at *
 refine eD (i := 0) (v := .pointer (some ⟨q, 0, none⟩)) HN2.out ?_
 simp only [iF, iH, iG, Act.put, dG, dI, dH]
 refine sK (i := 1) (v := (.agg (pl n p.ldp bk' ev' dv).toArray)) rfl (by kernel_rfl) (fun _ _ _ h => h) (fun w' hSw => aBS (.tmp 9) rfl rfl hSw) HN2.out ?_
 simp only [iF, iH, iG, Act.put, dG, dI, dH]
 refine eD (i := 2) (v := .int .u32 V) HN2.out ?_
 simp only [iF, iH, iG, Act.put, dG, dI, dH]
 refine eD (i := 3) (v := .int .u32 V) HN2.out ?_
 simp only [iF, iH, iG, Act.put, dG, dI, dH]
 refine eD (i := 4) (v := .bool true) HN2.out ?_
 simp only [iF, iH, iG, Act.put, dG, dI, dH]
 refine eD (i := 5) (v := .bool true) HN2.out ?_
 simp only [iF, iH, iG, Act.put, dG, dI, dH]
 refine eD (i := 6) (v := .int .i64 E) HN2.out ?_
 simp only [iF, iH, iG, Act.put, dG, dI, dH]
 refine eD (i := 7) (v := .int .i64 E) HN2.out ?_
 simp only [iF, iH, iG, Act.put, dG, dI, dH]
 refine eD (i := 8) (v := .bool true) HN2.out ?_
 simp only [iF, iH, iG, Act.put, dG, dI, dH]
 refine eD (i := 9) (v := .bool true) HN2.out ?_
 simp only [iF, iH, iG, Act.put, dG, dI, dH]
 refine eD (i := 10) (v := .pointer (some ⟨q, 0, none⟩)) HN2.out ?_
 simp only [iF, iH, iG, Act.put, dG, dI, dH]
 refine oC (i := 11) (by kernel_rfl) rfl fun K hK => ?_
 refine jI rfl (.tmp 7) (.tmp 40) rfl rfl n p.ldp bk' ev' dv rfl HF.out.z ⟨HB.out.F.M.one.1, HB.out.F.M.one.2, HB.out.F.G.one⟩ ?_
 intro W9 hN9 ho9
 have HX := Hd (kN HF.out HB.out ho9)
 have hS9 := (show QP W9 r n p.ldp bk' ev' dv from tZ HN2.out ho9 hN9)
 refine hK.out _ _ hS9 (fun _ => ?_)
 clear hK K ho9
 simp only [Act.put]
 refine eD (i := 12) (v := .bool true) hS9 ?_
 exact gJ
end
section
variable {s n c m q : Nat} {B : Bp} {p : Pt} {gv bk ev dv : Value} {K a v : Int} {gA : Value} {gs : List Int} {N : Int} {w : World}
theorem aOi (A : Ar s n c m q B p gv bk ev dv a v gA gs N w) (hK : K = 1) : DoC s n c m q p bk ev dv K a v gA N w := by
 have HF := Hd (A.f K)
 have HB := Hd (A.b K)
 have HG := Hd (A.g K)
 have HA := Hd A
 clear A
 unfold DoC
 subst hK
 obtain ⟨yA, capA, rfl, _, _, hyA⟩ := HG.out
 go_enter func29, ntmps29
 go_upto_region 1 with (fail)
 rw [cU, bE, show Obj.cells #[.int .i64 1, .int .u32 a, .int .u32 v, (.slice yA gs.length capA), .int .u64 N] 78 (0, 0) = iJ 1 a v (.slice yA gs.length capA) N from rfl]
 generalize ((w.alloc (fV n p bk ev dv)).alloc (iJ 1 a v (.slice yA gs.length capA) N)).alloc cY = W at *
 have x0 := HF.out.x0
 obtain ⟨E, hE⟩ : ∃ E, p.ste n c a v = E := ⟨_, rfl⟩
 obtain ⟨P, hP⟩ : ∃ P, p.stp n c a v = P := ⟨_, rfl⟩
 have hok := Pt.stp_ok (n := n) (c := c) HA.out.po HB.out.F.st HA.out.ps HB.out.F.hm a v
 have CS := Hd (fun w' (b : Bo s n c m w' q B p gv bk ev (dv)) => by have := aG2 q B p gv m a v w' b.H b.F.po b.F.hm HA.out.a0 HA.out.a1 HA.out.v0 HA.out.v1; rw [b.en, b.ec, hE, hP] at this; exact this)
 have RS := Hd (fun w' (F : Fit s n c m p bk ev dv w') => by have := aIW s n c m p bk ev dv a v HA.out.a0 HA.out.a1 HA.out.v0 HA.out.v1 w' F HA.out.hm; rw [hE, hP] at this; exact this)
 have zE := beq_self_eq_true E
 rw [hP] at hok
 have HOK := Hd hok
 have HGP := Hd (show P.gs = p.gs from hP ▸ Pt.stp_gs a v)
 clear hE hP hok
 have x1 := HF.out.x1
 have x2 := HF.out.x2
 go_upto_region 8 with (first | (refine jN rfl (.tmp 4) rfl rfl HF.out.h ?_) | (go_at_call 59; refine (RS.out _ HB.out.F).mono ?_; rintro e W1 ⟨bk', ev', rfl, M1, hb⟩; have HF := Hd (HF.out.below hb); have HB := Hd (HB.out.below hb); have HM1 := Hd M1; clear hb M1 x1 x2 x0) | (rw [bE]; refine kK rfl (.tmp 14) (.tmp 58) rfl rfl P bk' ev' dv n rfl (ZP.new W1 (aD W1 cY)) ⟨HM1.out.one.1, HM1.out.one.2, HB.out.F.G.one⟩ ?_; intro W2 hq2 ho2; have hb := lH (aE (aI W1) cY) ho2 (Nat.le_refl _) (Nat.le_refl _); have HF := Hd (HF.out.below hb); have HB := Hd (HB.out.below hb); have HM1 := Hd (HM1.out.below hb); have HN2 := Hd hq2; clear hb hq2 ho2))
 generalize W1.heap.size = r at *
 have HF := Hd (HF.out.below (jT (aI W2)))
 have HB := Hd (HB.out.below (jT (aI W2)))
 have HN2 := Hd (HN2.out.below (jT (aI W2)))
 have HM1 := Hd (HM1.out.below (jT (aI W2)))
 refine wp_region_held_drew (S := fun w' => QP w' r n P bk' ev' dv /\ w'.heap[w.heap.size + 1]? = some (iJ 1 a v (.slice yA gs.length capA) N)) (by kernel_rfl) ⟨HN2.out, HF.out.a⟩ (fun _ => ?_)
 generalize W2.drew = W3 at *
 refine eD (i := 0) (v := .pointer (some ⟨q, 0, none⟩)) ⟨HN2.out, HF.out.a⟩ ?_
 simp only [iF, iH, iG, Act.put, dG, dI, dH]
 refine sK (i := 1) (v := (.agg (pl n P bk' ev' dv).toArray)) rfl (by kernel_rfl) (fun _ _ _ h => h) (fun w' hSw => aBS (.tmp 14) rfl rfl hSw.1) ⟨HN2.out, HF.out.a⟩ ?_
 simp only [iF, iH, iG, Act.put, dG, dI, dH]
 refine eD (i := 2) (v := .pointer (some ⟨q, 0, none⟩)) ⟨HN2.out, HF.out.a⟩ ?_
 simp only [iF, iH, iG, Act.put, dG, dI, dH]
 refine eD (i := 3) (v := .pointer (some ⟨w.heap.size + 1, 1, none⟩)) ⟨HN2.out, HF.out.a⟩ ?_
 simp only [iF, iH, iG, Act.put, dG, dI, dH]
 refine sK (i := 4) (v := .int .u32 a) rfl (by kernel_rfl) (fun _ _ _ h => h) (fun w' hSw => by have c := aA hSw.2 1; simp at c; clear hSw; go_simp) ⟨HN2.out, HF.out.a⟩ ?_
 simp only [iF, iH, iG, Act.put, dG, dI, dH]
 refine eD (i := 5) (v := .pointer (some ⟨w.heap.size + 1, 2, none⟩)) ⟨HN2.out, HF.out.a⟩ ?_
 simp only [iF, iH, iG, Act.put, dG, dI, dH]
 refine sK (i := 6) (v := .int .u32 v) rfl (by kernel_rfl) (fun _ _ _ h => h) (fun w' hSw => by have c := aA hSw.2 2; simp at c; clear hSw; go_simp) ⟨HN2.out, HF.out.a⟩ ?_
 simp only [iF, iH, iG, Act.put, dG, dI, dH]
 refine eD (i := 8) (v := .int .i64 E) ⟨HN2.out, HF.out.a⟩ ?_
 simp only [iF, iH, iG, Act.put, dG, dI, dH]
 refine oC (i := 7) (by kernel_rfl) rfl fun K hK => ?_
 go_simp
 go_wp2_with (go_at_call 60; refine (CS.out _ HB.out).mono ?_; rintro e W4 ⟨rfl, hL⟩; obtain ⟨C, LC⟩ := hL.lp HB.out.H HB.out.nw HB.out.sq HF.out.ss; have HF := Hd (HF.out.step LC.kq LC.lo); have HM1 := Hd (HM1.out.kq LC.kq); have HN2 := Hd (HN2.out.kq LC.kq); have HB := Hd (show Bo s n c (m + 1) W4 q C P gv bk' ev' dv from ⟨LC.h, LC.nw, HB.out.sq, LC.n.trans HB.out.en, LC.c.trans HB.out.ec, HM1.out, by rw [HGP.out]; exact HB.out.F.G.kq LC.kq LC.lo, by have := LC.h.bd.ok; rw [LC.n, LC.c, HB.out.en, HB.out.ec] at this; exact this, LC.h.bd.still, HOK.out, by have := HA.out.hm; omega, Nat.le_trans HB.out.F.sb LC.lo.size⟩); clear LC hL)
 refine hK.out _ _ ⟨HN2.out, HF.out.a⟩ (fun _ => ?_)
 clear hK K
 refine eD (i := 9) (v := .bool true) ⟨HN2.out, HF.out.a⟩ ?_
 simp only [iF, iH, iG, Act.put, dG, dI, dH]
 refine eD (i := 10) (v := .pointer (some ⟨q, 0, none⟩)) ⟨HN2.out, HF.out.a⟩ ?_
 simp only [iF, iH, iG, Act.put, dG, dI, dH]
 refine oC (i := 11) (by kernel_rfl) rfl fun K hK => ?_
 refine jI rfl (.tmp 7) (.tmp 61) rfl rfl n P bk' ev' dv rfl HF.out.z ⟨HB.out.F.M.one.1, HB.out.F.M.one.2, HB.out.F.G.one⟩ ?_
 intro W9 hN9 ho9
 have HX := Hd (kN HF.out HB.out ho9)
 have hS9 := (show QP W9 r n P bk' ev' dv /\ W9.heap[w.heap.size + 1]? = some (iJ 1 a v (.slice yA gs.length capA) N) from ⟨tZ HN2.out ho9 hN9, ho9.at HF.out.a (by omega)⟩)
 refine hK.out _ _ hS9 (fun _ => ?_)
 clear hK K ho9
 simp only [Act.put]
 refine eD (i := 12) (v := .bool true) hS9 ?_
 exact gJ
end
section
variable {s n c m q : Nat} {B : Bp} {p : Pt} {gv bk ev dv : Value} {K a v : Int} {gA : Value} {gs : List Int} {N : Int} {w : World}
theorem aOj (A : Ar s n c m q B p gv bk ev dv a v gA gs N w) (hK : K = 2) : DoC s n c m q p bk ev dv K a v gA N w := by
 have HF := Hd (A.f K)
 have HB := Hd (A.b K)
 have HG := Hd (A.g K)
 have HA := Hd A
 clear A
 unfold DoC
 subst hK
 obtain ⟨yA, capA, rfl, _, _, hyA⟩ := HG.out
 go_enter func29, ntmps29
 go_upto_region 1 with (fail)
 rw [cU, bE, show Obj.cells #[.int .i64 2, .int .u32 a, .int .u32 v, (.slice yA gs.length capA), .int .u64 N] 78 (0, 0) = iJ 2 a v (.slice yA gs.length capA) N from rfl]
 generalize ((w.alloc (fV n p bk ev dv)).alloc (iJ 2 a v (.slice yA gs.length capA) N)).alloc cY = W at *
 have x0 := HF.out.x0
 obtain ⟨E, hE⟩ : ∃ E, (p.x.es.length : Int) - p.se = E := ⟨_, rfl⟩
 have CS := Hd (fun w' (b : Bo s n c m w' q B p gv bk ev (dv)) => by have := aKb q B p gv m w' b.H b.F.po b.F.hm; rw [hE] at this; exact this)
 have RS := Hd (fun w' (F : Fit s n c m p bk ev dv w') => by have := aN3 s n c m p bk ev dv w' F; rw [hE] at this; exact this)
 have zE := beq_self_eq_true E
 have HOK := Hd ((Pt.bt_ok HA.out.po).le (Nat.le_succ m))
 have HGP := Hd (show p.bt.gs = p.gs from rfl)
 clear hE
 go_upto_region 11 with (first | (refine jN rfl (.tmp 4) rfl rfl HF.out.h ?_) | (go_at_call 61; refine (RS.out _ HB.out.F).mono ?_; rintro e W1 ⟨bk', ev', rfl, M1, hb⟩; have HF := Hd (HF.out.below hb); have HB := Hd (HB.out.below hb); have HM1 := Hd M1; clear hb M1 x0) | (rw [bE]; refine kK rfl (.tmp 16) (.tmp 75) rfl rfl p.bt bk' ev' dv n rfl (ZP.new W1 (aD W1 cY)) ⟨HM1.out.one.1, HM1.out.one.2, HB.out.F.G.one⟩ ?_; intro W2 hq2 ho2; have hb := lH (aE (aI W1) cY) ho2 (Nat.le_refl _) (Nat.le_refl _); have HF := Hd (HF.out.below hb); have HB := Hd (HB.out.below hb); have HM1 := Hd (HM1.out.below hb); have HN2 := Hd hq2; clear hb hq2 ho2))
 generalize W1.heap.size = r at *
 have HF := Hd (HF.out.below (jT (aI W2)))
 have HB := Hd (HB.out.below (jT (aI W2)))
 have HN2 := Hd (HN2.out.below (jT (aI W2)))
 have HM1 := Hd (HM1.out.below (jT (aI W2)))
 refine wp_region_held_drew (S := fun w' => QP w' r n p.bt bk' ev' dv) (by kernel_rfl) HN2.out (fun _ => ?_)
 generalize W2.drew = W3 at *
 refine eD (i := 0) (v := .pointer (some ⟨q, 0, none⟩)) HN2.out ?_
 simp only [iF, iH, iG, Act.put, dG, dI, dH]
 refine sK (i := 1) (v := (.agg (pl n p.bt bk' ev' dv).toArray)) rfl (by kernel_rfl) (fun _ _ _ h => h) (fun w' hSw => aBS (.tmp 16) rfl rfl hSw) HN2.out ?_
 simp only [iF, iH, iG, Act.put, dG, dI, dH]
 refine eD (i := 2) (v := .pointer (some ⟨q, 0, none⟩)) HN2.out ?_
 simp only [iF, iH, iG, Act.put, dG, dI, dH]
 refine eD (i := 4) (v := .int .i64 E) HN2.out ?_
 simp only [iF, iH, iG, Act.put, dG, dI, dH]
 refine oC (i := 3) (by kernel_rfl) rfl fun K hK => ?_
 go_simp
 go_wp2_with (go_at_call 62; refine (CS.out _ HB.out).mono ?_; rintro e W4 ⟨rfl, hL⟩; obtain ⟨C, LC⟩ := hL.lp HB.out.H HB.out.nw HB.out.sq HF.out.ss; have HF := Hd (HF.out.step LC.kq LC.lo); have HM1 := Hd (HM1.out.kq LC.kq); have HN2 := Hd (HN2.out.kq LC.kq); have HB := Hd (show Bo s n c (m + 1) W4 q C p.bt gv bk' ev' dv from ⟨LC.h, LC.nw, HB.out.sq, LC.n.trans HB.out.en, LC.c.trans HB.out.ec, HM1.out, by rw [HGP.out]; exact HB.out.F.G.kq LC.kq LC.lo, by have := LC.h.bd.ok; rw [LC.n, LC.c, HB.out.en, HB.out.ec] at this; exact this, LC.h.bd.still, HOK.out, by have := HA.out.hm; omega, Nat.le_trans HB.out.F.sb LC.lo.size⟩); clear LC hL)
 refine hK.out _ _ HN2.out (fun _ => ?_)
 clear hK K
 refine eD (i := 5) (v := .bool true) HN2.out ?_
 simp only [iF, iH, iG, Act.put, dG, dI, dH]
 refine eD (i := 6) (v := .pointer (some ⟨q, 0, none⟩)) HN2.out ?_
 simp only [iF, iH, iG, Act.put, dG, dI, dH]
 refine oC (i := 7) (by kernel_rfl) rfl fun K hK => ?_
 refine jI rfl (.tmp 7) (.tmp 78) rfl rfl n p.bt bk' ev' dv rfl HF.out.z ⟨HB.out.F.M.one.1, HB.out.F.M.one.2, HB.out.F.G.one⟩ ?_
 intro W9 hN9 ho9
 have HX := Hd (kN HF.out HB.out ho9)
 have hS9 := (show QP W9 r n p.bt bk' ev' dv from tZ HN2.out ho9 hN9)
 refine hK.out _ _ hS9 (fun _ => ?_)
 clear hK K ho9
 simp only [Act.put]
 refine eD (i := 8) (v := .bool true) hS9 ?_
 exact gJ
end
section
variable {s n c m q : Nat} {B : Bp} {p : Pt} {gv bk ev dv : Value} {K a v : Int} {gA : Value} {gs : List Int} {N : Int} {w : World}
theorem aMe (A : Ar s n c m q B p gv bk ev dv a v gA gs N w) (hK : K = 3) (hmany : 64 < gs.length) : DoC s n c m q p bk ev dv K a v gA N w := by
 have HF := Hd (A.f K)
 have HB := Hd (A.b K)
 have HG := Hd (A.g K)
 have HA := Hd A
 clear A
 unfold DoC
 subst hK
 obtain ⟨yA, capA, rfl, _, _, hyA⟩ := HG.out
 go_enter func29, ntmps29
 go_upto_region 1 with (fail)
 rw [cU, bE, show Obj.cells #[.int .i64 3, .int .u32 a, .int .u32 v, (.slice yA gs.length capA), .int .u64 N] 78 (0, 0) = iJ 3 a v (.slice yA gs.length capA) N from rfl]
 generalize ((w.alloc (fV n p bk ev dv)).alloc (iJ 3 a v (.slice yA gs.length capA) N)).alloc cY = W at *
 have x0 := HF.out.x0
 have CG := Hd (fun w' => aEu q yA gs.length capA w' hmany)
 have hd := decide_eq_true (show (64 : Int) < gs.length by omega)
 have x3 := HF.out.x3
 go_upto_region 14 with (go_at_call 63; refine (CG.out _).mono ?_; rintro e W1 ⟨rfl, hb⟩; have HF := Hd (HF.out.below hb); have HB := Hd (HB.out.below hb); clear hb x3 x0)
 have x3 := HF.out.x3
 go_upto_region 15 with (fail)
 clear x3
 have HF := Hd (HF.out.below (jT (aI W1)))
 have HB := Hd (HB.out.below (jT (aI W1)))
 have HB := Hd (HB.out.le (Nat.le_succ m) (by have := HA.out.hm; omega))
 refine wp_region_held_drew (S := fun w' => QP w' w.heap.size n p bk ev dv) (by kernel_rfl) HF.out.h (fun _ => ?_)
 generalize W1.drew = W5 at *
 refine eD (i := 0) (v := .pointer (some ⟨q, 0, none⟩)) HF.out.h ?_
 simp only [iF, iH, iG, Act.put, dG, dI, dH]
 refine sK (i := 1) (v := (.agg (pl n p bk ev dv).toArray)) rfl (by kernel_rfl) (fun _ _ _ h => h) (fun w' hSw => aBS (.tmp 4) rfl rfl hSw) HF.out.h ?_
 simp only [iF, iH, iG, Act.put, dG, dI, dH]
 refine eD (i := 2) (v := .int .i64 6) HF.out.h ?_
 simp only [iF, iH, iG, Act.put, dG, dI, dH]
 refine eD (i := 3) (v := .bool true) HF.out.h ?_
 simp only [iF, iH, iG, Act.put, dG, dI, dH]
 refine eD (i := 4) (v := .pointer (some ⟨q, 0, none⟩)) HF.out.h ?_
 simp only [iF, iH, iG, Act.put, dG, dI, dH]
 refine oC (i := 5) (by kernel_rfl) rfl fun K hK => ?_
 refine jI rfl (.tmp 7) (.tmp 94) rfl rfl n p bk ev dv rfl HF.out.z ⟨HB.out.F.M.one.1, HB.out.F.M.one.2, HB.out.F.G.one⟩ ?_
 intro W9 hN9 ho9
 have HX := Hd (kN HF.out HB.out ho9)
 have hS9 := (show QP W9 w.heap.size n p bk ev dv from ho9.at HF.out.h (by omega))
 refine hK.out _ _ hS9 (fun _ => ?_)
 clear hK K ho9
 simp only [Act.put]
 refine eD (i := 6) (v := .bool true) hS9 ?_
 exact gJ
end
end Go.Proofs.YtealhichdbimlaaGreat.B
