/- A part of the proof of a law of layer 12: bw. -/
import Derived.Test.YtpojmmgokgamgaaGreatZYbv
set_option linter.unusedVariables false
set_option linter.unusedSimpArgs false
set_option maxHeartbeats 12800000
set_option maxRecDepth 100000
namespace Go.Proofs.YtpojmmgokgamgaaGreat.B
open Go.Proofs.Tryz
open Go.ChangeShapes Go.WideShapes Go.RowKit Go.Sort
theorem Pt.stp_gs {n c : Nat} {p : Pt} (a v : Int) : (p.stp n c a v).gs = p.gs := by
 unfold Pt.stp
 split
 . rfl
 . split <;> rfl
theorem Pt.ldp_gs {p : Pt} : p.ldp.gs = p.gs := by
 unfold Pt.ldp
 split <;> rfl
structure Bo (s n c m : Nat) (w : World) (q : Nat) (B : Bp) (p : Pt) (gv bk ev dv : Value) : Prop where
 H : aY w q B p gv
 nw : B.new s
 sq : s <= q
 en : B.n = n
 ec : B.c = c
 F : Fit s n c m p bk ev dv w
section
variable {s n c m : Nat} {w w' : World} {q : Nat} {B : Bp} {p : Pt} {gv bk ev dv : Value}
theorem Bo.below (b : Bo s n c m w q B p gv bk ev dv) (hb : Below w.heap.size w w') : Bo s n c m w' q B p gv bk ev dv := ⟨b.H.below hb, b.nw, b.sq, b.en, b.ec, b.F.below hb⟩
theorem aY.offk {k : Nat} {cs : Array Value} {T : TypeId} {f : Nat × Nat} (H : aY w q B p gv) (ho : aF (· = k) w w') (hk : w.heap[k]? = some (.cells cs T f)) (h1 : aEX (T + 1) = false) (h2 : (T == zP) = false) (h3 : gK (T + 1) = false) : aY w' q B p gv :=
 ⟨ho.at H.cell (fun e => aK H.cell hk (by cases h : (zP == T) ; rfl; rw [beq_iff_eq.1 h] at h2; simp at h2) e), H.bd.offk ho hk h1, H.g.off ho fun j _ hj e => by
  rcases hj with hj | hj
  . omega
  . rw [e, bP hk, h3] at hj; cases hj⟩
theorem Bo.offP {r : Nat} {cs : Array Value} (b : Bo s n c m w q B p gv bk ev dv) (ho : aF (· = r) w w') (hr : w.heap[r]? = some (.cells cs aCY (0, 0))) (hs : s <= r) : Bo s n c m w' q B p gv bk ev dv :=
 ⟨b.H.offk ho hr (by decide) rfl (by decide), b.nw, b.sq, b.en, b.ec, pL b.F.M ho hr, rZ b.F.G hs ho hr, b.F.ok, b.F.st, b.F.po, b.F.hm, Nat.le_trans b.F.sb ho.size⟩
theorem Bo.le {k : Nat} (b : Bo s n c m w q B p gv bk ev dv) (h : m <= k) (hk : k < 4294967290) : Bo s n c k w q B p gv bk ev dv := ⟨b.H, b.nw, b.sq, b.en, b.ec, b.F.M, b.F.G, b.F.ok, b.F.st, b.F.po.le h, hk, b.F.sb⟩
end
structure rT (w0 w : World) (s b n : Nat) (p : Pt) (bk ev dv : Value) (K a v : Int) (gA : Value) (N : Int) : Prop where
 h : QP w b n p bk ev dv
 a : w.heap[b + 1]? = some (jC K a v gA N)
 z : ZP w (b + 2)
 lo : Below s w0 w
 kq : Kq w0 w
 sb : s <= w0.heap.size
 b0 : w0.heap.size <= b
section
variable {w0 w w' : World} {s b n : Nat} {p : Pt} {bk ev dv gA : Value} {K a v N : Int}
theorem rT.ss (F : rT w0 w s b n p bk ev dv K a v gA N) : s <= w.heap.size := Nat.le_trans F.sb F.lo.size
theorem rT.step (F : rT w0 w s b n p bk ev dv K a v gA N) (kq : Kq w w') (lo : Below s w w') : rT w0 w' s b n p bk ev dv K a v gA N :=
 ⟨F.h.kq kq, kq _ _ _ _ F.a (by decide) rfl, F.z.kq kq, F.lo.trans lo, F.kq.trans kq, F.sb, F.b0⟩
theorem rT.below (F : rT w0 w s b n p bk ev dv K a v gA N) (hb : Below w.heap.size w w') : rT w0 w' s b n p bk ev dv K a v gA N := F.step (Kq.ofBelow hb) (hb.mono F.ss)
theorem rT.turn {p' : Pt} {bk' ev' dv' : Value} (F : rT w0 w s b n p bk ev dv K a v gA N) (h : QP w' b n p' bk' ev' dv') (ho : aF (· = b) w w') : rT w0 w' s b n p' bk' ev' dv' K a v gA N :=
 ⟨h, ho.at F.a (by omega), F.z.off ho (by omega), aF.toBelow F.lo ho (fun k hk e => by have := F.b0; have := F.sb; omega) F.sb, fun k cs T f hk h1 h2 => ho.at (F.kq k cs T f hk h1 h2) fun e => by have := lt_of_block hk; have := F.b0; omega, F.sb, F.b0⟩
theorem rT.x0 (F : rT w0 w s b n p bk ev dv K a v gA N) : w.cell? ⟨b + 1, 0, none⟩ = some (.int .i64 K) := by have := aA F.a 0; simpa using this
theorem rT.x1 (F : rT w0 w s b n p bk ev dv K a v gA N) : w.cell? ⟨b + 1, 1, none⟩ = some (.int .u32 a) := by have := aA F.a 1; simpa using this
theorem rT.x2 (F : rT w0 w s b n p bk ev dv K a v gA N) : w.cell? ⟨b + 1, 2, none⟩ = some (.int .u32 v) := by have := aA F.a 2; simpa using this
theorem rT.x3 (F : rT w0 w s b n p bk ev dv K a v gA N) : w.cell? ⟨b + 1, 3, none⟩ = some gA := by have := aA F.a 3; simpa using this
theorem rT.x4 (F : rT w0 w s b n p bk ev dv K a v gA N) : w.cell? ⟨b + 1, 4, none⟩ = some (.int .u64 N) := by have := aA F.a 4; simpa using this
theorem aOW (w : World) (s n : Nat) (p : Pt) (bk ev dv : Value) (K a v : Int) (gA : Value) (N : Int) (hs : s <= w.heap.size) : rT w (((w.alloc (gU n p bk ev dv)).alloc (jC K a v gA N)).alloc fY) s w.heap.size n p bk ev dv K a v gA N := by
 have hb := aE (aE (aE (aI w) (gU n p bk ev dv)) (jC K a v gA N)) fY
 exact ⟨aBQ w _ _ _, aCa w _ _ _, ZP.new w (aCU w _ _ _), hb.mono hs, Kq.ofBelow hb, hs, Nat.le_refl _⟩
end
def aBF (s n c m : Nat) (w0 : World) (e : Ending) (w' : World) : Prop := ∃ q C p gv bk ev dv, e = .returned (.tuple #[.pointer (some ⟨q, 0, none⟩), .agg (pl n p bk ev dv).toArray, .bool true]) /\ Bo s n c (m + 1) w' q C p gv bk ev dv /\ Below s w0 w' /\ Kq w0 w'
theorem kA {w0 w w' : World} {s b n c m : Nat} {p0 p : Pt} {bk0 ev0 dv0 gv bk ev dv gA : Value} {K a v N : Int} {q : Nat} {C : Bp} (F : rT w0 w s b n p0 bk0 ev0 dv0 K a v gA N) (bo : Bo s n c (m + 1) w q C p gv bk ev dv) (ho : aF (· = b + 2) w w') :
 aBF s n c m w0 (.returned (.tuple #[.pointer (some ⟨q, 0, none⟩), .agg (pl n p bk ev dv).toArray, .bool true])) w' := by
 obtain ⟨cs, h1, h2⟩ := F.z
 have h3 := F.b0
 have h4 := F.sb
 refine ⟨q, C, p, gv, bk, ev, dv, rfl, bo.offP ho h1 (by omega), aF.toBelow F.lo ho (fun k hk e => by omega) F.sb, fun k cs T f hk hT hP => ?_⟩
 exact ho.at (F.kq k cs T f hk hT hP) fun e => by have := lt_of_block hk; omega
structure Ar (s n c m q : Nat) (B : Bp) (p : Pt) (gv bk ev dv : Value) (a v : Int) (gA : Value) (gs : List Int) (N : Int) (w : World) : Prop where
 bo : Bo s n c m w q B p gv bk ev dv
 hm : m < 4294967280
 G : kY s w gA gs
 hgs : ∀ g ∈ gs, 0 <= g /\ g < 4294967296
 n0 : 0 <= N
 n1 : N < 18446744073709551616
 a0 : 0 <= a
 a1 : a < 4294967296
 v0 : 0 <= v
 v1 : v < 4294967296
def DoC (s n c m q : Nat) (p : Pt) (bk ev dv : Value) (K a v : Int) (gA : Value) (N : Int) (w : World) : Prop :=
 Calls prog 12 #[.pointer (some ⟨q, 0, none⟩), .agg (pl n p bk ev dv).toArray, .agg #[.int .i64 K, .int .u32 a, .int .u32 v, gA, .int .u64 N]] w (aBF s n c m w)
section
variable {s n c m q : Nat} {B : Bp} {p : Pt} {gv bk ev dv : Value} {a v : Int} {gA : Value} {gs : List Int} {N : Int} {w : World}
theorem Ar.f (A : Ar s n c m q B p gv bk ev dv a v gA gs N w) (K : Int) : rT w (((w.alloc (gU n p bk ev dv)).alloc (jC K a v gA N)).alloc fY) s w.heap.size n p bk ev dv K a v gA N := aOW w s n p bk ev dv K a v gA N A.bo.F.sb
theorem Ar.b (A : Ar s n c m q B p gv bk ev dv a v gA gs N w) (K : Int) : Bo s n c m (((w.alloc (gU n p bk ev dv)).alloc (jC K a v gA N)).alloc fY) q B p gv bk ev dv := A.bo.below (aE (aE (aE (aI w) _) _) _)
theorem Ar.g (A : Ar s n c m q B p gv bk ev dv a v gA gs N w) (K : Int) : kY s (((w.alloc (gU n p bk ev dv)).alloc (jC K a v gA N)).alloc fY) gA gs := A.G.below (aE (aE (aE (aI w) _) _) _)
theorem Ar.el (A : Ar s n c m q B p gv bk ev dv a v gA gs N w) : p.x.es.length < 4294967290 := by have := A.bo.F.po.es; have := A.hm; omega
theorem Ar.po (A : Ar s n c m q B p gv bk ev dv a v gA gs N w) : p.ok m := A.bo.F.po
theorem Ar.ps (A : Ar s n c m q B p gv bk ev dv a v gA gs N w) : (p.x.tick p.gp).still := have g := Pt.gp_bounds A.bo.F.po.gs; (Bx.tick_ok A.bo.F.ok A.bo.F.st (N := p.gp) g.1 (by omega)).2
end
theorem aAD {o : Oper} {f : Operand -> Value} {w : World} {b n : Nat} {p : Pt} {bk ev gv : Value} (y : Operand) (ho : o.op = .load 54 y) (hx : f y = .pointer (some ⟨b, 0, none⟩)) (hg : QP w b n p bk ev gv) : (execOp f o).run prog w = .ok (.value (.agg (pl n p bk ev gv).toArray)) w :=
 kI _ y ho b 0 hx _ (pl n p bk ev gv) hg underlying54 rfl (by rw [fZ]; exact xY) (aM _)
theorem iY {ops : Array Oper} {o : Oper} {a : Act} {w : World} {K : Act -> World -> Prop} {Q : Exit -> Act -> World -> Prop} {E : Prop} (hgd : o.guard = none) (y z : Operand) (ho : o.op = .store 54 y z) {b : Nat} (hx : a.eval y = .pointer (some ⟨b, 0, none⟩)) (n' : Nat) (p' : Pt) (bk' ev' gv' : Value) (hy : a.eval z = .agg (pl n' p' bk' ev' gv').toArray) (hz : ZP w b) (h1 : bk'.oneCell' = true /\ ev'.oneCell' = true /\ gv'.oneCell' = true)
 (h : ∀ w', QP w' b n' p' bk' ev' gv' -> aF (· = b) w w' -> K (a.put o.dst undef) w') : if Region.wanted o (yielded ops a.tmps) = true then Oper.wp prog o a w K Q else E := by
 obtain ⟨cs, hg, hl⟩ := hz
 have hR : QP (w.setRow b (pl n' p' bk' ev' gv').toArray) b n' p' bk' ev' gv' := aT _ hg
 refine lP hgd _ y z ho b 0 hx (pl n' p' bk' ev' gv') hy hg (by rw [fZ]; exact xY) (by rw [fZ, hl]; omega) (aEm n' p' bk' ev' gv' h1) ?_
 rw [aV _ _ (by rw [hl, fZ])]
 exact nM
theorem sN {w w' : World} {q r n : Nat} {p : Pt} {bk ev gv : Value} (h : QP w q n p bk ev gv) (ho : aF (· = r) w w') (hN : QP w' r n p bk ev gv) : QP w' q n p bk ev gv := by
 by_cases hq : q = r
 . rw [hq]; exact hN
 . exact ho.at h hq
theorem aNr {fn : Func} {q r u : Tmp} (h : fn.results = #[.tmp r, .cell q 54, .tmp u]) (tmps : Array Value) (w : World) {b n : Nat} {p : Pt} {bk ev gv : Value} (y z : Value) (hr : tmps[r]? = some y) (hp : tmps[q]? = some (.pointer (some ⟨b, 0, none⟩))) (hu : tmps[u]? = some z) (hg : QP w b n p bk ev gv) :
 (results fn tmps).run prog w = .ok (.tuple #[y, .agg (pl n p bk ev gv).toArray, z]) w := by
 exact uV
structure tH (w : World) (q r : Nat) (B C : Bp) (p p2 : Pt) (gv gv2 : Value) : Prop where
 one : aY w q B p gv
 two : aY w r C p2 gv2
 ap : ∀ k, C.all k \/ k = r -> ¬ (k = q \/ B.own k)
section
variable {w w' : World} {q r : Nat} {B C : Bp} {p p2 p3 : Pt} {gv gv2 gv3 : Value}
theorem tH.below (T : tH w q r B C p p2 gv gv2) (hb : Below w.heap.size w w') : tH w' q r B C p p2 gv gv2 := ⟨T.one.below hb, T.two.below hb, T.ap⟩
theorem aDt (H : aY w q B p gv) (h : C.new w.heap.size) : ∀ k, C.all k -> ¬ (k = q \/ B.own k) := fun k hk hS => by
 have h4 := h k hk
 rcases hS with e | e
 . have := H.lt; omega
 . have := H.bd.lt (.inl e); omega
theorem aBl (H : aY w q B p gv) (hp : aY w' r C p2 gv2) (ha : ∀ k, C.all k -> ¬ (k = q \/ B.own k)) (hb : Below w.heap.size w w') (hr : w.heap.size <= r) : tH w' q r B C p p2 gv gv2 :=
 ⟨H.below hb, hp, fun k hk hS => by
  rcases hk with hk | rfl
  . exact ha k hk hS
  . rcases hS with e | e
    . have := H.lt; omega
    . have := H.bd.lt (.inl e); omega⟩
theorem aY.offS {S : Nat -> Prop} (H : aY w r C p2 gv2) (ho : aF S w w') (ha : ∀ k, C.all k \/ k = r -> ¬ S k) (hg : ∀ k, gK (kd w k) = true -> ¬ S k) : aY w' r C p2 gv2 :=
 ⟨ho.at H.cell (ha r (.inr rfl)), H.bd.off ho fun k hk => ha k (.inl hk), H.g.off ho fun k _ hk => by
  rcases hk with hk | hk
  . omega
  . exact hg k hk⟩
theorem tH.left (T : tH w q r B C p p2 gv gv2) (L : bQ q B p3 gv3 w w') : ∃ ev', tH w' q r { B with ev := ev' } C p3 p2 gv3 gv2 /\ aF (fun k => k = q \/ B.own k) w w' /\ ∀ k, ev'.ownBlock = some k -> B.ev.ownBlock = some k \/ w.heap.size <= k := by
 obtain ⟨ev', h, ho, he⟩ := L
 have h2 := T.two.offS ho T.ap fun k hk => by
  rintro (e | e)
  . exact T.one.noG hk e
  . have := T.one.bd.ownKd e; rw [(aBe hk).1] at this; cases this
 refine ⟨ev', ⟨h, h2, fun k hk hS => ?_⟩, ho, he⟩
 rcases hS with e | e | e | e
 . exact T.ap k hk (.inl e)
 . exact T.ap k hk (.inr (.inl e))
 . exact T.ap k hk (.inr (.inr (.inl e)))
 . rcases he k e with e | e
   . exact T.ap k hk (.inr (.inr (.inr e)))
   . rcases hk with hk | hk
     . have := T.two.bd.lt hk; omega
     . have := T.two.lt; omega
end
section
variable {s n c m q : Nat} {B : Bp} {p : Pt} {gv bk ev dv : Value} {K a v : Int} {gA : Value} {gs : List Int} {N : Int} {w : World}
theorem gD {P : Prop} (h : P := by
 simp only [iA, hJ, hI, Act.put, dH, dF, dG]
 clear hS9
 refine wpAnyH_done (by kernel_rfl) ?_ _
 go_wp2_with fail
 exact bodyPost_ret (aNr rfl _ _ _ _ rfl rfl rfl hN9) rfl HX.out
 ) : P := h
theorem aNz (A : Ar s n c m q B p gv bk ev dv a v gA gs N w) (hK : K = 0) : DoC s n c m q p bk ev dv K a v gA N w := by
 have HF := Hd (A.f K)
 have HB := Hd (A.b K)
 have HG := Hd (A.g K)
 have HA := Hd A
 clear A
 unfold DoC
 subst hK
 obtain ⟨yA, capA, rfl, _, _, hyA⟩ := HG.out
 go_enter func12, ntmps12
 go_upto_region 1 with (fail)
 rw [cY, cU, show Obj.cells #[.int .i64 0, .int .u32 a, .int .u32 v, (.slice yA gs.length capA), .int .u64 N] 56 (0, 0) = jC 0 a v (.slice yA gs.length capA) N from rfl]
 generalize ((w.alloc (gU n p bk ev dv)).alloc (jC 0 a v (.slice yA gs.length capA) N)).alloc fY = W at *
 have x0 := HF.out.x0
 obtain ⟨V, hV⟩ : ∃ V, p.ldv n c a = V := ⟨_, rfl⟩
 obtain ⟨E, hE⟩ : ∃ E, p.lde n c a = E := ⟨_, rfl⟩
 have CL := Hd (fun w' (b : Bo s n c m w' q B p gv bk ev (dv)) => by have := aDT q B p gv m a w' b.H b.F.po b.F.hm HA.out.a0 HA.out.a1; rw [b.en, b.ec, hV, hE] at this; exact this)
 have RL := Hd (fun w' (F : Fit s n c m p bk ev dv w') => by have := aLX s n c m p bk ev dv a HA.out.a0 HA.out.a1 w' F HA.out.hm; rw [hV, hE] at this; exact this)
 have zV := beq_self_eq_true V
 have zE := beq_self_eq_true E
 clear hV hE
 have x1 := HF.out.x1
 go_upto_region 4 with (first | (refine pY rfl (.tmp 4) rfl rfl HF.out.h ?_) | (go_at_call 30; refine (RL.out _ HB.out.F).mono ?_; rintro e W1 ⟨bk', ev', rfl, M1, hb⟩; have HF := Hd (HF.out.below hb); have HB := Hd (HB.out.below hb); have HM1 := Hd M1; clear hb M1 x1 x0) | (rw [cU]; refine zG rfl (.tmp 9) (.tmp 29) rfl rfl p.ldp bk' ev' dv n rfl (ZP.new W1 (aD W1 fY)) ⟨HM1.out.one.1, HM1.out.one.2, HB.out.F.G.one⟩ ?_; intro W2 hq2 ho2; have hb := kS (aE (aI W1) fY) ho2 (Nat.le_refl _) (Nat.le_refl _); have HF := Hd (HF.out.below hb); have HB := Hd (HB.out.below hb); have HM1 := Hd (HM1.out.below hb); have HN2 := Hd hq2; clear hb hq2 ho2))
 generalize W1.heap.size = r at *
 have x1 := HF.out.x1
 go_upto_region 5 with (go_at_call 17; refine (CL.out _ HB.out).mono ?_; rintro e W3 ⟨rfl, hL⟩; obtain ⟨C, LC⟩ := hL.lp HB.out.H HB.out.nw HB.out.sq HF.out.ss; have HF := Hd (HF.out.step LC.kq LC.lo); have HM1 := Hd (HM1.out.kq LC.kq); have HN2 := Hd (HN2.out.kq LC.kq); have HB := Hd (show Bo s n c (m + 1) W3 q C p.ldp gv bk' ev' dv from ⟨LC.h, LC.nw, HB.out.sq, LC.n.trans HB.out.en, LC.c.trans HB.out.ec, HM1.out, by rw [Pt.ldp_gs]; exact HB.out.F.G.kq LC.kq LC.lo, by have := LC.h.bd.ok; rw [LC.n, LC.c, HB.out.en, HB.out.ec] at this; exact this, LC.h.bd.still, Pt.ldp_ok HA.out.po HB.out.F.st HB.out.F.hm, by have := HA.out.hm; omega, Nat.le_trans HB.out.F.sb LC.lo.size⟩); clear LC hL x1)
 have HF := Hd (HF.out.below (jH (aI W3)))
 have HB := Hd (HB.out.below (jH (aI W3)))
 have HN2 := Hd (HN2.out.below (jH (aI W3)))
 refine wp_region_held_drew (S := fun w' => QP w' r n p.ldp bk' ev' dv) (by kernel_rfl) HN2.out (fun _ => ?_)
 generalize W3.drew = W5 at *
 refine eA (i := 0) (v := .pointer (some ⟨q, 0, none⟩)) HN2.out ?_
 simp only [iA, hJ, hI, Act.put, dH, dF, dG]
 refine rQ (i := 1) (v := (.agg (pl n p.ldp bk' ev' dv).toArray)) rfl (by kernel_rfl) (fun _ _ _ h => h) (fun w' hSw => aAD (.tmp 9) rfl rfl hSw) HN2.out ?_
 simp only [iA, hJ, hI, Act.put, dH, dF, dG]
 refine eA (i := 2) (v := .int .u32 V) HN2.out ?_
 simp only [iA, hJ, hI, Act.put, dH, dF, dG]
 refine eA (i := 3) (v := .int .u32 V) HN2.out ?_
 simp only [iA, hJ, hI, Act.put, dH, dF, dG]
 refine eA (i := 4) (v := .bool true) HN2.out ?_
 simp only [iA, hJ, hI, Act.put, dH, dF, dG]
 refine eA (i := 5) (v := .bool true) HN2.out ?_
 simp only [iA, hJ, hI, Act.put, dH, dF, dG]
 refine eA (i := 6) (v := .int .i64 E) HN2.out ?_
 simp only [iA, hJ, hI, Act.put, dH, dF, dG]
 refine eA (i := 7) (v := .int .i64 E) HN2.out ?_
 simp only [iA, hJ, hI, Act.put, dH, dF, dG]
 refine eA (i := 8) (v := .bool true) HN2.out ?_
 simp only [iA, hJ, hI, Act.put, dH, dF, dG]
 refine eA (i := 9) (v := .bool true) HN2.out ?_
 simp only [iA, hJ, hI, Act.put, dH, dF, dG]
 refine eA (i := 10) (v := .pointer (some ⟨q, 0, none⟩)) HN2.out ?_
 simp only [iA, hJ, hI, Act.put, dH, dF, dG]
 refine nP (i := 11) (by kernel_rfl) rfl fun K hK => ?_
 refine iY rfl (.tmp 7) (.tmp 40) rfl rfl n p.ldp bk' ev' dv rfl HF.out.z ⟨HB.out.F.M.one.1, HB.out.F.M.one.2, HB.out.F.G.one⟩ ?_
 intro W9 hN9 ho9
 have HX := Hd (kA HF.out HB.out ho9)
 have hS9 := (show QP W9 r n p.ldp bk' ev' dv from sN HN2.out ho9 hN9)
 refine hK.out _ _ hS9 (fun _ => ?_)
 clear hK K ho9
 simp only [Act.put]
 refine eA (i := 12) (v := .bool true) hS9 ?_
 exact gD
end
section
variable {s n c m q : Nat} {B : Bp} {p : Pt} {gv bk ev dv : Value} {K a v : Int} {gA : Value} {gs : List Int} {N : Int} {w : World}
theorem aNG (A : Ar s n c m q B p gv bk ev dv a v gA gs N w) (hK : K = 1) : DoC s n c m q p bk ev dv K a v gA N w := by
 have HF := Hd (A.f K)
 have HB := Hd (A.b K)
 have HG := Hd (A.g K)
 have HA := Hd A
 clear A
 unfold DoC
 subst hK
 obtain ⟨yA, capA, rfl, _, _, hyA⟩ := HG.out
 go_enter func12, ntmps12
 go_upto_region 1 with (fail)
 rw [cY, cU, show Obj.cells #[.int .i64 1, .int .u32 a, .int .u32 v, (.slice yA gs.length capA), .int .u64 N] 56 (0, 0) = jC 1 a v (.slice yA gs.length capA) N from rfl]
 generalize ((w.alloc (gU n p bk ev dv)).alloc (jC 1 a v (.slice yA gs.length capA) N)).alloc fY = W at *
 have x0 := HF.out.x0
 obtain ⟨E, hE⟩ : ∃ E, p.ste n c a v = E := ⟨_, rfl⟩
 obtain ⟨P, hP⟩ : ∃ P, p.stp n c a v = P := ⟨_, rfl⟩
 have hok := Pt.stp_ok (n := n) (c := c) HA.out.po HB.out.F.st HA.out.ps HB.out.F.hm a v
 have CS := Hd (fun w' (b : Bo s n c m w' q B p gv bk ev (dv)) => by have := aFe q B p gv m a v w' b.H b.F.po b.F.hm HA.out.a0 HA.out.a1 HA.out.v0 HA.out.v1; rw [b.en, b.ec, hE, hP] at this; exact this)
 have RS := Hd (fun w' (F : Fit s n c m p bk ev dv w') => by have := aHf s n c m p bk ev dv a v HA.out.a0 HA.out.a1 HA.out.v0 HA.out.v1 w' F HA.out.hm; rw [hE, hP] at this; exact this)
 have zE := beq_self_eq_true E
 rw [hP] at hok
 have HOK := Hd hok
 have HGP := Hd (show P.gs = p.gs from hP ▸ Pt.stp_gs a v)
 clear hE hP hok
 have x1 := HF.out.x1
 have x2 := HF.out.x2
 go_upto_region 8 with (first | (refine pY rfl (.tmp 4) rfl rfl HF.out.h ?_) | (go_at_call 31; refine (RS.out _ HB.out.F).mono ?_; rintro e W1 ⟨bk', ev', rfl, M1, hb⟩; have HF := Hd (HF.out.below hb); have HB := Hd (HB.out.below hb); have HM1 := Hd M1; clear hb M1 x1 x2 x0) | (rw [cU]; refine zG rfl (.tmp 14) (.tmp 58) rfl rfl P bk' ev' dv n rfl (ZP.new W1 (aD W1 fY)) ⟨HM1.out.one.1, HM1.out.one.2, HB.out.F.G.one⟩ ?_; intro W2 hq2 ho2; have hb := kS (aE (aI W1) fY) ho2 (Nat.le_refl _) (Nat.le_refl _); have HF := Hd (HF.out.below hb); have HB := Hd (HB.out.below hb); have HM1 := Hd (HM1.out.below hb); have HN2 := Hd hq2; clear hb hq2 ho2))
 generalize W1.heap.size = r at *
 have HF := Hd (HF.out.below (jH (aI W2)))
 have HB := Hd (HB.out.below (jH (aI W2)))
 have HN2 := Hd (HN2.out.below (jH (aI W2)))
 have HM1 := Hd (HM1.out.below (jH (aI W2)))
 refine wp_region_held_drew (S := fun w' => QP w' r n P bk' ev' dv /\ w'.heap[w.heap.size + 1]? = some (jC 1 a v (.slice yA gs.length capA) N)) (by kernel_rfl) ⟨HN2.out, HF.out.a⟩ (fun _ => ?_)
 generalize W2.drew = W3 at *
 refine eA (i := 0) (v := .pointer (some ⟨q, 0, none⟩)) ⟨HN2.out, HF.out.a⟩ ?_
 simp only [iA, hJ, hI, Act.put, dH, dF, dG]
 refine rQ (i := 1) (v := (.agg (pl n P bk' ev' dv).toArray)) rfl (by kernel_rfl) (fun _ _ _ h => h) (fun w' hSw => aAD (.tmp 14) rfl rfl hSw.1) ⟨HN2.out, HF.out.a⟩ ?_
 simp only [iA, hJ, hI, Act.put, dH, dF, dG]
 refine eA (i := 2) (v := .pointer (some ⟨q, 0, none⟩)) ⟨HN2.out, HF.out.a⟩ ?_
 simp only [iA, hJ, hI, Act.put, dH, dF, dG]
 refine eA (i := 3) (v := .pointer (some ⟨w.heap.size + 1, 1, none⟩)) ⟨HN2.out, HF.out.a⟩ ?_
 simp only [iA, hJ, hI, Act.put, dH, dF, dG]
 refine rQ (i := 4) (v := .int .u32 a) rfl (by kernel_rfl) (fun _ _ _ h => h) (fun w' hSw => by have c := aA hSw.2 1; simp at c; clear hSw; go_simp) ⟨HN2.out, HF.out.a⟩ ?_
 simp only [iA, hJ, hI, Act.put, dH, dF, dG]
 refine eA (i := 5) (v := .pointer (some ⟨w.heap.size + 1, 2, none⟩)) ⟨HN2.out, HF.out.a⟩ ?_
 simp only [iA, hJ, hI, Act.put, dH, dF, dG]
 refine rQ (i := 6) (v := .int .u32 v) rfl (by kernel_rfl) (fun _ _ _ h => h) (fun w' hSw => by have c := aA hSw.2 2; simp at c; clear hSw; go_simp) ⟨HN2.out, HF.out.a⟩ ?_
 simp only [iA, hJ, hI, Act.put, dH, dF, dG]
 refine eA (i := 8) (v := .int .i64 E) ⟨HN2.out, HF.out.a⟩ ?_
 simp only [iA, hJ, hI, Act.put, dH, dF, dG]
 refine nP (i := 7) (by kernel_rfl) rfl fun K hK => ?_
 go_simp
 go_wp2_with (go_at_call 18; refine (CS.out _ HB.out).mono ?_; rintro e W4 ⟨rfl, hL⟩; obtain ⟨C, LC⟩ := hL.lp HB.out.H HB.out.nw HB.out.sq HF.out.ss; have HF := Hd (HF.out.step LC.kq LC.lo); have HM1 := Hd (HM1.out.kq LC.kq); have HN2 := Hd (HN2.out.kq LC.kq); have HB := Hd (show Bo s n c (m + 1) W4 q C P gv bk' ev' dv from ⟨LC.h, LC.nw, HB.out.sq, LC.n.trans HB.out.en, LC.c.trans HB.out.ec, HM1.out, by rw [HGP.out]; exact HB.out.F.G.kq LC.kq LC.lo, by have := LC.h.bd.ok; rw [LC.n, LC.c, HB.out.en, HB.out.ec] at this; exact this, LC.h.bd.still, HOK.out, by have := HA.out.hm; omega, Nat.le_trans HB.out.F.sb LC.lo.size⟩); clear LC hL)
 refine hK.out _ _ ⟨HN2.out, HF.out.a⟩ (fun _ => ?_)
 clear hK K
 refine eA (i := 9) (v := .bool true) ⟨HN2.out, HF.out.a⟩ ?_
 simp only [iA, hJ, hI, Act.put, dH, dF, dG]
 refine eA (i := 10) (v := .pointer (some ⟨q, 0, none⟩)) ⟨HN2.out, HF.out.a⟩ ?_
 simp only [iA, hJ, hI, Act.put, dH, dF, dG]
 refine nP (i := 11) (by kernel_rfl) rfl fun K hK => ?_
 refine iY rfl (.tmp 7) (.tmp 61) rfl rfl n P bk' ev' dv rfl HF.out.z ⟨HB.out.F.M.one.1, HB.out.F.M.one.2, HB.out.F.G.one⟩ ?_
 intro W9 hN9 ho9
 have HX := Hd (kA HF.out HB.out ho9)
 have hS9 := (show QP W9 r n P bk' ev' dv /\ W9.heap[w.heap.size + 1]? = some (jC 1 a v (.slice yA gs.length capA) N) from ⟨sN HN2.out ho9 hN9, ho9.at HF.out.a (by omega)⟩)
 refine hK.out _ _ hS9 (fun _ => ?_)
 clear hK K ho9
 simp only [Act.put]
 refine eA (i := 12) (v := .bool true) hS9 ?_
 exact gD
end
section
variable {s n c m q : Nat} {B : Bp} {p : Pt} {gv bk ev dv : Value} {K a v : Int} {gA : Value} {gs : List Int} {N : Int} {w : World}
theorem aOQ (A : Ar s n c m q B p gv bk ev dv a v gA gs N w) (hK : K = 2) : DoC s n c m q p bk ev dv K a v gA N w := by
 have HF := Hd (A.f K)
 have HB := Hd (A.b K)
 have HG := Hd (A.g K)
 have HA := Hd A
 clear A
 unfold DoC
 subst hK
 obtain ⟨yA, capA, rfl, _, _, hyA⟩ := HG.out
 go_enter func12, ntmps12
 go_upto_region 1 with (fail)
 rw [cY, cU, show Obj.cells #[.int .i64 2, .int .u32 a, .int .u32 v, (.slice yA gs.length capA), .int .u64 N] 56 (0, 0) = jC 2 a v (.slice yA gs.length capA) N from rfl]
 generalize ((w.alloc (gU n p bk ev dv)).alloc (jC 2 a v (.slice yA gs.length capA) N)).alloc fY = W at *
 have x0 := HF.out.x0
 obtain ⟨E, hE⟩ : ∃ E, (p.x.es.length : Int) - p.se = E := ⟨_, rfl⟩
 have CS := Hd (fun w' (b : Bo s n c m w' q B p gv bk ev (dv)) => by have := aJc q B p gv m w' b.H b.F.po b.F.hm; rw [hE] at this; exact this)
 have RS := Hd (fun w' (F : Fit s n c m p bk ev dv w') => by have := aN9 s n c m p bk ev dv w' F; rw [hE] at this; exact this)
 have zE := beq_self_eq_true E
 have HOK := Hd ((Pt.bt_ok HA.out.po).le (Nat.le_succ m))
 have HGP := Hd (show p.bt.gs = p.gs from rfl)
 clear hE
 go_upto_region 11 with (first | (refine pY rfl (.tmp 4) rfl rfl HF.out.h ?_) | (go_at_call 32; refine (RS.out _ HB.out.F).mono ?_; rintro e W1 ⟨bk', ev', rfl, M1, hb⟩; have HF := Hd (HF.out.below hb); have HB := Hd (HB.out.below hb); have HM1 := Hd M1; clear hb M1 x0) | (rw [cU]; refine zG rfl (.tmp 16) (.tmp 75) rfl rfl p.bt bk' ev' dv n rfl (ZP.new W1 (aD W1 fY)) ⟨HM1.out.one.1, HM1.out.one.2, HB.out.F.G.one⟩ ?_; intro W2 hq2 ho2; have hb := kS (aE (aI W1) fY) ho2 (Nat.le_refl _) (Nat.le_refl _); have HF := Hd (HF.out.below hb); have HB := Hd (HB.out.below hb); have HM1 := Hd (HM1.out.below hb); have HN2 := Hd hq2; clear hb hq2 ho2))
 generalize W1.heap.size = r at *
 have HF := Hd (HF.out.below (jH (aI W2)))
 have HB := Hd (HB.out.below (jH (aI W2)))
 have HN2 := Hd (HN2.out.below (jH (aI W2)))
 have HM1 := Hd (HM1.out.below (jH (aI W2)))
 refine wp_region_held_drew (S := fun w' => QP w' r n p.bt bk' ev' dv) (by kernel_rfl) HN2.out (fun _ => ?_)
 generalize W2.drew = W3 at *
 refine eA (i := 0) (v := .pointer (some ⟨q, 0, none⟩)) HN2.out ?_
 simp only [iA, hJ, hI, Act.put, dH, dF, dG]
 refine rQ (i := 1) (v := (.agg (pl n p.bt bk' ev' dv).toArray)) rfl (by kernel_rfl) (fun _ _ _ h => h) (fun w' hSw => aAD (.tmp 16) rfl rfl hSw) HN2.out ?_
 simp only [iA, hJ, hI, Act.put, dH, dF, dG]
 refine eA (i := 2) (v := .pointer (some ⟨q, 0, none⟩)) HN2.out ?_
 simp only [iA, hJ, hI, Act.put, dH, dF, dG]
 refine eA (i := 4) (v := .int .i64 E) HN2.out ?_
 simp only [iA, hJ, hI, Act.put, dH, dF, dG]
 refine nP (i := 3) (by kernel_rfl) rfl fun K hK => ?_
 go_simp
 go_wp2_with (go_at_call 19; refine (CS.out _ HB.out).mono ?_; rintro e W4 ⟨rfl, hL⟩; obtain ⟨C, LC⟩ := hL.lp HB.out.H HB.out.nw HB.out.sq HF.out.ss; have HF := Hd (HF.out.step LC.kq LC.lo); have HM1 := Hd (HM1.out.kq LC.kq); have HN2 := Hd (HN2.out.kq LC.kq); have HB := Hd (show Bo s n c (m + 1) W4 q C p.bt gv bk' ev' dv from ⟨LC.h, LC.nw, HB.out.sq, LC.n.trans HB.out.en, LC.c.trans HB.out.ec, HM1.out, by rw [HGP.out]; exact HB.out.F.G.kq LC.kq LC.lo, by have := LC.h.bd.ok; rw [LC.n, LC.c, HB.out.en, HB.out.ec] at this; exact this, LC.h.bd.still, HOK.out, by have := HA.out.hm; omega, Nat.le_trans HB.out.F.sb LC.lo.size⟩); clear LC hL)
 refine hK.out _ _ HN2.out (fun _ => ?_)
 clear hK K
 refine eA (i := 5) (v := .bool true) HN2.out ?_
 simp only [iA, hJ, hI, Act.put, dH, dF, dG]
 refine eA (i := 6) (v := .pointer (some ⟨q, 0, none⟩)) HN2.out ?_
 simp only [iA, hJ, hI, Act.put, dH, dF, dG]
 refine nP (i := 7) (by kernel_rfl) rfl fun K hK => ?_
 refine iY rfl (.tmp 7) (.tmp 78) rfl rfl n p.bt bk' ev' dv rfl HF.out.z ⟨HB.out.F.M.one.1, HB.out.F.M.one.2, HB.out.F.G.one⟩ ?_
 intro W9 hN9 ho9
 have HX := Hd (kA HF.out HB.out ho9)
 have hS9 := (show QP W9 r n p.bt bk' ev' dv from sN HN2.out ho9 hN9)
 refine hK.out _ _ hS9 (fun _ => ?_)
 clear hK K ho9
 simp only [Act.put]
 refine eA (i := 8) (v := .bool true) hS9 ?_
 exact gD
end
end Go.Proofs.YtpojmmgokgamgaaGreat.B
