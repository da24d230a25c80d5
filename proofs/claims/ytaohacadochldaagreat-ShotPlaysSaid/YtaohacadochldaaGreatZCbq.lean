/- A part of the proof of a law of layer 12: bq. -/
import Derived.Test.YtaohacadochldaaGreatZCbp
set_option linter.unusedVariables false
set_option linter.unusedSimpArgs false
set_option maxHeartbeats 12800000
set_option maxRecDepth 100000
namespace Go.Proofs.YtaohacadochldaaGreat.B
open Go.Proofs.Tryz
open Go.ChangeShapes Go.WideShapes Go.RowKit Go.Sort Go.MapKept
theorem Pt.stp_gs {n c : Nat} {p : Pt} (a v : Int) : (p.stp n c a v).gs = p.gs := by
 unfold Pt.stp
 split
 . rfl
 . split <;> rfl
theorem Pt.ldp_gs {p : Pt} : p.ldp.gs = p.gs := by
 unfold Pt.ldp
 split <;> rfl
structure Bo (s n c m : Nat) (w : World) (q : Nat) (B : Bp) (p : Pt) (gv bk ev dv : Value) : Prop where
 H : aT w q B p gv
 nw : B.new s
 sq : s <= q
 en : B.n = n
 ec : B.c = c
 F : Fit s n c m p bk ev dv w
section
variable {s n c m : Nat} {w w' : World} {q : Nat} {B : Bp} {p : Pt} {gv bk ev dv : Value}
theorem Bo.below (b : Bo s n c m w q B p gv bk ev dv) (hb : Below w.heap.size w w') : Bo s n c m w' q B p gv bk ev dv := ⟨b.H.below hb, b.nw, b.sq, b.en, b.ec, b.F.below hb⟩
theorem aT.offk {k : Nat} {cs : Array Value} {T : TypeId} {f : Nat × Nat} (H : aT w q B p gv) (ho : aF (· = k) w w') (hk : w.heap[k]? = some (.cells cs T f)) (h1 : aFG (T + 1) = false) (h2 : (T == tPt) = false) (h3 : gK (T + 1) = false) : aT w' q B p gv :=
 ⟨ho.at H.cell (fun e => aI H.cell hk (by cases h : (tPt == T) ; rfl; rw [beq_iff_eq.1 h] at h2; simp at h2) e), H.bd.offk ho hk h1, H.g.off ho fun j _ hj e => by
  rcases hj with hj | hj
  . omega
  . rw [e, bT hk, h3] at hj; cases hj⟩
theorem Bo.offP {r : Nat} {cs : Array Value} (b : Bo s n c m w q B p gv bk ev dv) (ho : aF (· = r) w w') (hr : w.heap[r]? = some (.cells cs aBi (0, 0))) (hs : s <= r) : Bo s n c m w' q B p gv bk ev dv :=
 ⟨b.H.offk ho hr (by decide) rfl (by decide), b.nw, b.sq, b.en, b.ec, oF b.F.M ho hr, pX b.F.G hs ho hr, b.F.ok, b.F.st, b.F.po, b.F.hm, Nat.le_trans b.F.sb ho.size⟩
theorem Bo.le {k : Nat} (b : Bo s n c m w q B p gv bk ev dv) (h : m <= k) (hk : k < 4294967290) : Bo s n c k w q B p gv bk ev dv := ⟨b.H, b.nw, b.sq, b.en, b.ec, b.F.M, b.F.G, b.F.ok, b.F.st, b.F.po.le h, hk, b.F.sb⟩
end
structure qS (w0 w : World) (s b n : Nat) (p : Pt) (bk ev dv : Value) (K a v : Int) (gA : Value) (N : Int) : Prop where
 h : QP w b n p bk ev dv
 a : w.heap[b + 1]? = some (hJ K a v gA N)
 z : ZP w (b + 2)
 lo : Below s w0 w
 kq : Kq w0 w
 sb : s <= w0.heap.size
 b0 : w0.heap.size <= b
section
variable {w0 w w' : World} {s b n : Nat} {p : Pt} {bk ev dv gA : Value} {K a v N : Int}
theorem qS.ss (F : qS w0 w s b n p bk ev dv K a v gA N) : s <= w.heap.size := Nat.le_trans F.sb F.lo.size
theorem qS.step (F : qS w0 w s b n p bk ev dv K a v gA N) (kq : Kq w w') (lo : Below s w w') : qS w0 w' s b n p bk ev dv K a v gA N :=
 ⟨F.h.kq kq, kq _ _ _ _ F.a (by decide) rfl, F.z.kq kq, F.lo.trans lo, F.kq.trans kq, F.sb, F.b0⟩
theorem qS.below (F : qS w0 w s b n p bk ev dv K a v gA N) (hb : Below w.heap.size w w') : qS w0 w' s b n p bk ev dv K a v gA N := F.step (Kq.ofBelow hb) (hb.mono F.ss)
theorem qS.turn {p' : Pt} {bk' ev' dv' : Value} (F : qS w0 w s b n p bk ev dv K a v gA N) (h : QP w' b n p' bk' ev' dv') (ho : aF (· = b) w w') : qS w0 w' s b n p' bk' ev' dv' K a v gA N :=
 ⟨h, ho.at F.a (by omega), F.z.off ho (by omega), aF.toBelow F.lo ho (fun k hk e => by have := F.b0; have := F.sb; omega) F.sb, fun k cs T f hk h1 h2 => ho.at (F.kq k cs T f hk h1 h2) fun e => by have := lt_of_block hk; have := F.b0; omega, F.sb, F.b0⟩
theorem qS.x0 (F : qS w0 w s b n p bk ev dv K a v gA N) : w.cell? ⟨b + 1, 0, none⟩ = some (.int .i64 K) := by have := aA F.a 0; simpa using this
theorem qS.x1 (F : qS w0 w s b n p bk ev dv K a v gA N) : w.cell? ⟨b + 1, 1, none⟩ = some (.int .u32 a) := by have := aA F.a 1; simpa using this
theorem qS.x2 (F : qS w0 w s b n p bk ev dv K a v gA N) : w.cell? ⟨b + 1, 2, none⟩ = some (.int .u32 v) := by have := aA F.a 2; simpa using this
theorem qS.x3 (F : qS w0 w s b n p bk ev dv K a v gA N) : w.cell? ⟨b + 1, 3, none⟩ = some gA := by have := aA F.a 3; simpa using this
theorem qS.x4 (F : qS w0 w s b n p bk ev dv K a v gA N) : w.cell? ⟨b + 1, 4, none⟩ = some (.int .u64 N) := by have := aA F.a 4; simpa using this
theorem aIS (w : World) (s n : Nat) (p : Pt) (bk ev dv : Value) (K a v : Int) (gA : Value) (N : Int) (hs : s <= w.heap.size) : qS w (((w.alloc (fW n p bk ev dv)).alloc (hJ K a v gA N)).alloc dI) s w.heap.size n p bk ev dv K a v gA N := by
 have hb := aE (aE (aE (aH w) (fW n p bk ev dv)) (hJ K a v gA N)) dI
 exact ⟨aCA w _ _ _, aCB w _ _ _, ZP.new w (aCC w _ _ _), hb.mono hs, Kq.ofBelow hb, hs, Nat.le_refl _⟩
end
def tB (s n c m q0 : Nat) (K : Int) (w0 : World) (e : Ending) (w' : World) : Prop := ∃ q C p gv bk ev dv, e = .returned (.tuple #[.pointer (some ⟨q, 0, none⟩), .agg (pl n p bk ev dv).toArray, .bool true]) /\ Bo s n c (m + 1) w' q C p gv bk ev dv /\ Below s w0 w' /\ Kq w0 w' /\ (K ≠ 5 -> q = q0)
theorem aAy {q0 : Nat} {w0 w w' : World} {s b n c m : Nat} {p0 p : Pt} {bk0 ev0 dv0 gv bk ev dv gA : Value} {K a v N : Int} {q : Nat} {C : Bp} (F : qS w0 w s b n p0 bk0 ev0 dv0 K a v gA N) (bo : Bo s n c (m + 1) w q C p gv bk ev dv) (ho : aF (· = b + 2) w w') (hq : K ≠ 5 -> q = q0) :
 tB s n c m q0 K w0 (.returned (.tuple #[.pointer (some ⟨q, 0, none⟩), .agg (pl n p bk ev dv).toArray, .bool true])) w' := by
 obtain ⟨cs, h1, h2⟩ := F.z
 have h3 := F.b0
 have h4 := F.sb
 refine ⟨q, C, p, gv, bk, ev, dv, rfl, bo.offP ho h1 (by omega), aF.toBelow F.lo ho (fun k hk e => by omega) F.sb, fun k cs T f hk hT hP => ?_, hq⟩
 exact ho.at (F.kq k cs T f hk hT hP) fun e => by have := lt_of_block hk; omega
theorem lM {w0 w w' : World} {s b n c m : Nat} {p0 p : Pt} {bk0 ev0 dv0 gv bk ev dv gA : Value} {K a v N : Int} {q : Nat} {C : Bp} (F : qS w0 w s b n p0 bk0 ev0 dv0 K a v gA N) (bo : Bo s n c (m + 1) w q C p gv bk ev dv) (ho : aF (· = b + 2) w w') :
 tB s n c m q K w0 (.returned (.tuple #[.pointer (some ⟨q, 0, none⟩), .agg (pl n p bk ev dv).toArray, .bool true])) w' := aAy F bo ho fun _ => rfl
structure Ar (s n c m q : Nat) (B : Bp) (p : Pt) (gv bk ev dv : Value) (a v : Int) (gA : Value) (gs : List Int) (N : Int) (w : World) : Prop where
 bo : Bo s n c m w q B p gv bk ev dv
 hm : m < 4294967280
 G : jW s w gA gs
 hgs : ∀ g ∈ gs, 0 <= g /\ g < 4294967296
 n0 : 0 <= N
 n1 : N < 18446744073709551616
 a0 : 0 <= a
 a1 : a < 4294967296
 v0 : 0 <= v
 v1 : v < 4294967296
def DoC (s n c m q : Nat) (p : Pt) (bk ev dv : Value) (K a v : Int) (gA : Value) (N : Int) (w : World) : Prop :=
 Calls prog 15 #[.pointer (some ⟨q, 0, none⟩), .agg (pl n p bk ev dv).toArray, .agg #[.int .i64 K, .int .u32 a, .int .u32 v, gA, .int .u64 N]] w (tB s n c m q K w)
section
variable {s n c m q : Nat} {B : Bp} {p : Pt} {gv bk ev dv : Value} {a v : Int} {gA : Value} {gs : List Int} {N : Int} {w : World}
theorem Ar.f (A : Ar s n c m q B p gv bk ev dv a v gA gs N w) (K : Int) : qS w (((w.alloc (fW n p bk ev dv)).alloc (hJ K a v gA N)).alloc dI) s w.heap.size n p bk ev dv K a v gA N := aIS w s n p bk ev dv K a v gA N A.bo.F.sb
theorem Ar.b (A : Ar s n c m q B p gv bk ev dv a v gA gs N w) (K : Int) : Bo s n c m (((w.alloc (fW n p bk ev dv)).alloc (hJ K a v gA N)).alloc dI) q B p gv bk ev dv := A.bo.below (aE (aE (aE (aH w) _) _) _)
theorem Ar.g (A : Ar s n c m q B p gv bk ev dv a v gA gs N w) (K : Int) : jW s (((w.alloc (fW n p bk ev dv)).alloc (hJ K a v gA N)).alloc dI) gA gs := A.G.below (aE (aE (aE (aH w) _) _) _)
theorem Ar.el (A : Ar s n c m q B p gv bk ev dv a v gA gs N w) : p.x.es.length < 4294967290 := by have := A.bo.F.po.es; have := A.hm; omega
theorem Ar.po (A : Ar s n c m q B p gv bk ev dv a v gA gs N w) : p.ok m := A.bo.F.po
theorem Ar.ps (A : Ar s n c m q B p gv bk ev dv a v gA gs N w) : (p.x.tick p.gp).still := have g := Pt.gp_bounds A.bo.F.po.gs; (Bx.tick_ok A.bo.F.ok A.bo.F.st (N := p.gp) g.1 (by omega)).2
end
theorem aBa {o : Oper} {f : Operand -> Value} {w : World} {b n : Nat} {p : Pt} {bk ev gv : Value} (y : Operand) (ho : o.op = .load 42 y) (hx : f y = .pointer (some ⟨b, 0, none⟩)) (hg : QP w b n p bk ev gv) : (execOp f o).run prog w = .ok (.value (.agg (pl n p bk ev gv).toArray)) w :=
 kS _ y ho b 0 hx _ (pl n p bk ev gv) hg underlying42 rfl (by rw [gE]; exact vP) (aL _)
theorem jK {ops : Array Oper} {o : Oper} {a : Act} {w : World} {K : Act -> World -> Prop} {Q : Exit -> Act -> World -> Prop} {E : Prop} (hgd : o.guard = none) (y z : Operand) (ho : o.op = .store 42 y z) {b : Nat} (hx : a.eval y = .pointer (some ⟨b, 0, none⟩)) (n' : Nat) (p' : Pt) (bk' ev' gv' : Value) (hy : a.eval z = .agg (pl n' p' bk' ev' gv').toArray) (hz : ZP w b) (h1 : bk'.oneCell' = true /\ ev'.oneCell' = true /\ gv'.oneCell' = true)
 (h : ∀ w', QP w' b n' p' bk' ev' gv' -> aF (· = b) w w' -> K (a.put o.dst undef) w') : if Region.wanted o (yielded ops a.tmps) = true then Oper.wp prog o a w K Q else E := by
 obtain ⟨cs, hg, hl⟩ := hz
 have hR : QP (w.setRow b (pl n' p' bk' ev' gv').toArray) b n' p' bk' ev' gv' := aY _ hg
 refine mJ hgd _ y z ho b 0 hx (pl n' p' bk' ev' gv') hy hg (by rw [gE]; exact vP) (by rw [gE, hl]; omega) (aG5 n' p' bk' ev' gv' h1) ?_
 rw [aW _ _ (by rw [hl, gE])]
 exact nU
theorem uF {w w' : World} {q r n : Nat} {p : Pt} {bk ev gv : Value} (h : QP w q n p bk ev gv) (ho : aF (· = r) w w') (hN : QP w' r n p bk ev gv) : QP w' q n p bk ev gv := by
 by_cases hq : q = r
 . rw [hq]; exact hN
 . exact ho.at h hq
theorem aOw {fn : Func} {q r u : Tmp} (h : fn.results = #[.tmp r, .cell q 42, .tmp u]) (tmps : Array Value) (w : World) {b n : Nat} {p : Pt} {bk ev gv : Value} (y z : Value) (hr : tmps[r]? = some y) (hp : tmps[q]? = some (.pointer (some ⟨b, 0, none⟩))) (hu : tmps[u]? = some z) (hg : QP w b n p bk ev gv) :
 (results fn tmps).run prog w = .ok (.tuple #[y, .agg (pl n p bk ev gv).toArray, z]) w := by
 exact wE
structure tH (w : World) (q r : Nat) (B C : Bp) (p p2 : Pt) (gv gv2 : Value) : Prop where
 one : aT w q B p gv
 two : aT w r C p2 gv2
 ap : ∀ k, C.all k \/ k = r -> ¬ (k = q \/ B.own k)
section
variable {w w' : World} {q r : Nat} {B C : Bp} {p p2 p3 : Pt} {gv gv2 gv3 : Value}
theorem tH.below (T : tH w q r B C p p2 gv gv2) (hb : Below w.heap.size w w') : tH w' q r B C p p2 gv gv2 := ⟨T.one.below hb, T.two.below hb, T.ap⟩
theorem aEz (H : aT w q B p gv) (h : C.new w.heap.size) : ∀ k, C.all k -> ¬ (k = q \/ B.own k) := fun k hk hS => by
 have h4 := h k hk
 rcases hS with e | e
 . have := H.lt; omega
 . have := H.bd.lt (.inl e); omega
theorem aDD (H : aT w q B p gv) (hp : aT w' r C p2 gv2) (ha : ∀ k, C.all k -> ¬ (k = q \/ B.own k)) (hb : Below w.heap.size w w') (hr : w.heap.size <= r) : tH w' q r B C p p2 gv gv2 :=
 ⟨H.below hb, hp, fun k hk hS => by
  rcases hk with hk | rfl
  . exact ha k hk hS
  . rcases hS with e | e
    . have := H.lt; omega
    . have := H.bd.lt (.inl e); omega⟩
theorem aT.offS {S : Nat -> Prop} (H : aT w r C p2 gv2) (ho : aF S w w') (ha : ∀ k, C.all k \/ k = r -> ¬ S k) (hg : ∀ k, gK (kd w k) = true -> ¬ S k) : aT w' r C p2 gv2 :=
 ⟨ho.at H.cell (ha r (.inr rfl)), H.bd.off ho fun k hk => ha k (.inl hk), H.g.off ho fun k _ hk => by
  rcases hk with hk | hk
  . omega
  . exact hg k hk⟩
theorem tH.left (T : tH w q r B C p p2 gv gv2) (L : bA q B p3 gv3 w w') : ∃ ev', tH w' q r { B with ev := ev' } C p3 p2 gv3 gv2 /\ aF (fun k => k = q \/ B.own k) w w' /\ ∀ k, ev'.ownBlock = some k -> B.ev.ownBlock = some k \/ w.heap.size <= k := by
 obtain ⟨ev', h, ho, he⟩ := L
 have h2 := T.two.offS ho T.ap fun k hk => by
  rintro (e | e)
  . exact T.one.noG hk e
  . have := T.one.bd.ownKd e; rw [(tZ hk).1] at this; cases this
 refine ⟨ev', ⟨h, h2, fun k hk hS => ?_⟩, ho, he⟩
 rcases hS with e | e | e | e
 . exact T.ap k hk (.inl e)
 . exact T.ap k hk (.inr (.inl e))
 . exact T.ap k hk (.inr (.inr (.inl e)))
 . rcases he k e with e | e
   . exact T.ap k hk (.inr (.inr (.inr e)))
   . rcases hk with hk | hk
     . have := T.two.bd.lt hk; omega
     . have := T.two.lt; omega
end
structure qP (w0 w : World) (b n k q : Nat) (C : Bp) (p : Pt) (gv : Value) (c h : Nat) (l : Int) : Prop where
 H : aT w q C p gv
 nw : C.new w0.heap.size
 sq : w0.heap.size <= q
 eb : C.b = b
 en : C.n = n
 ec : C.c = 1
 ok : p.ok k
 lo : Below w0.heap.size w0 w
 K : gD w c q h l
 hc : w0.heap.size <= c
 hn : h < n
section
variable {w0 w w' : World} {b n k q c h : Nat} {C : Bp} {p : Pt} {gv : Value} {l d : Int}
theorem qP.below (S : qP w0 w b n k q C p gv c h l) (hb : Below w.heap.size w w') : qP w0 w' b n k q C p gv c h l := ⟨S.H.below hb, S.nw, S.sq, S.eb, S.en, S.ec, S.ok, tr S.lo hb, S.K.below hb, S.hc, S.hn⟩
theorem qP.xok (S : qP w0 w b n k q C p gv c h l) : p.x.ok n 1 := by have := S.H.bd.ok; rw [S.en, S.ec] at this; exact this
theorem qP.left {p2 : Pt} {l2 : Int} {j : Nat} (S : qP w0 w b n k q C p gv c h l) (L : aDN q C p2 gv c h l2 w w') (ho : p2.ok j) : ∃ C2, qP w0 w' b n j q C2 p2 gv c h l2 := by
 obtain ⟨w1, l1, L1, K1, rfl⟩ := L
 obtain ⟨C2, LC⟩ := L1.lp S.H S.nw S.sq S.lo.size
 have ho2 := aG w1 c 2 (.int .u64 l2)
 exact ⟨C2, LC.h.offk ho2 K1 (by decide) rfl (by decide), LC.nw, S.sq, LC.e.trans S.eb, LC.n.trans S.en, LC.c.trans S.ec, ho, aF.toBelow (S.lo.trans LC.lo) ho2 (fun j hj e => by have := S.hc; omega) (Nat.le_refl _), K1.set l2, S.hc, S.hn⟩
theorem qP.arm (S : qP w0 w b n k q C p gv c h l) (cm : qR p) (hk : k < 4294967000) (d0 : 0 <= d) (d1 : d < 18446744073709551616) :
 Calls prog 12 #[.pointer (some ⟨c, 0, none⟩), .int .u64 d] w fun e w' => e = .returned (.int .i64 0) /\ ∃ C2, qP w0 w' b n (k + 3) q C2 (p.arm n 1 h d).p gv c h d := by
 have a := aC7 q c h k C p gv l d w S.H S.K S.ok (by omega) (by rw [S.en]; exact S.hn) d0 d1
 have o := zG S.ok S.xok S.H.bd.still (by omega) S.hn d0 d1
 have e := (tJ S.ok S.xok S.H.bd.still cm (by omega) S.hn d0 d1).1
 rw [S.en, S.ec, e, show lP d 0 = d by unfold lP; rw [if_pos rfl]] at a
 exact a.mono fun e w' ⟨he, L⟩ => ⟨he, S.left L o.po⟩
theorem qP.dis (S : qP w0 w b n k q C p gv c h l) (cm : qR p) (hk : k < 4294967000) :
 Calls prog 11 #[.pointer (some ⟨c, 0, none⟩)] w fun e w' => e = .returned (.int .i64 0) /\ ∃ C2, qP w0 w' b n (k + 3) q C2 (p.arm n 1 h 18446744073709551615).p gv c h 18446744073709551615 := by
 have a := aBf q c h k C p gv l w S.H S.K S.ok (by omega) (by rw [S.en]; exact S.hn)
 have o := zG S.ok S.xok S.H.bd.still (by omega) S.hn (d := 18446744073709551615) (by decide) (by decide)
 have e := (tJ S.ok S.xok S.H.bd.still cm (by omega) S.hn (d := 18446744073709551615) (by decide) (by decide)).1
 rw [S.en, S.ec, e, show lP 18446744073709551615 0 = 18446744073709551615 by unfold lP; rw [if_pos rfl]] at a
 exact a.mono fun e w' ⟨he, L⟩ => ⟨he, S.left L o.po⟩
theorem qP.cmp (S : qP w0 w b n k q C p gv c h l) {x : Nat} (hx : x < n) {v : Int} (hv : p.x.D x = v) :
 Calls prog 22 #[.pointer (some ⟨b, 0, none⟩), .int .i64 x] w fun e w' => e = .returned (.int .u64 v) /\ Below w.heap.size w w' := by
 have a := xT C p.x x w S.H.bd
 rw [S.eb, S.en, show oL n p.x.D (x : Int) = v by unfold oL dT; rw [if_pos (by simp; omega), <- hv]; rfl] at a
 exact a
theorem qP.pend (S : qP w0 w b n k q C p gv c h l) {v : Int} (hv : p.x.D h = v) {bt : Bool} (hb : decide (v <= p.x.ti) = bt) :
 Calls prog 17 #[.pointer (some ⟨c, 0, none⟩)] w fun e w' => e = .returned (.bool bt) /\ Below w.heap.size w w' := by
 have a := yQ S.H S.K
 have hn := S.hn
 rw [S.en, show oR p.x.ti n p.x.D (h : Int) = bt by unfold oR dT; rw [decide_eq_true (by omega), Bool.true_and, <- hb, <- hv]; rfl] at a
 exact a
theorem qP.time (S : qP w0 w b n k q C p gv c h l) : Calls prog 23 #[.pointer (some ⟨b, 0, none⟩)] w fun e w' => e = .returned (.int .u64 p.x.ti) /\ Below w.heap.size w w' := by
 have a := aFP C p.x w S.H.bd
 rw [S.eb] at a
 exact a
theorem qP.made (S : qP w0 w b n k q C p gv c h l) {v : Int} (hv : (p.md : Int) = v) : Calls prog 21 #[.pointer (some ⟨q, 0, none⟩)] w fun e w' => e = .returned (.int .i64 v) /\ Below w.heap.size w w' := by
 have a := aKa q C p gv w S.H
 rw [hv] at a
 exact a
end
structure P12 (w0 w : World) (b n c k q : Nat) (C : Bp) (p : Pt) (gv bk ev dv : Value) : Prop where
 bo : Bo w0.heap.size n c k w q C p gv bk ev dv
 N : QP w b n p bk ev dv
 lo : Below w0.heap.size w0 w
 hp : w0.heap.size <= b
theorem P12.below {w0 w w' : World} {b n c k q : Nat} {C : Bp} {p : Pt} {gv bk ev dv : Value} (P : P12 w0 w b n c k q C p gv bk ev dv) (hb : Below w.heap.size w w') : P12 w0 w' b n c k q C p gv bk ev dv := ⟨P.bo.below hb, P.N.below hb, tr P.lo hb, P.hp⟩
structure P11 (w0 w : World) (p n c : Nat) (d : Int) (C : Bp) (y : Bx) (bk ev : Value) : Prop where
 h : aZ w C y
 nw : C.new w0.heap.size
 en : C.n = n
 ec : C.c = c
 ed : C.div = d
 N : eY w p n y bk ev
 M : MV w c y bk ev
 lo : Below w0.heap.size w0 w
 hp : w0.heap.size <= p
section
variable {w0 w w' : World} {p n c : Nat} {d : Int} {C : Bp} {y : Bx} {bk ev : Value}
theorem P11.below (P : P11 w0 w p n c d C y bk ev) (hb : Below w.heap.size w w') : P11 w0 w' p n c d C y bk ev := ⟨P.h.below hb, P.nw, P.en, P.ec, P.ed, P.N.below hb, P.M.below hb, tr P.lo hb, P.hp⟩
end
theorem aFV (n c g l k lc : Nat) (x : Bx) (y : Option Addr) (y2 : Option Addr) (l2 k2 : Nat) (gs : List Int) (w : World) : (Instr.build 42 #[(0, .agg (ml n x (.slice (some ⟨g, 0, none⟩) c k) (.slice y2 l2 k2)).toArray), (1, .slice y l lc)]).run prog w = .ok (.agg (pl n ⟨x, gs, 0, 0, 0⟩ (.slice (some ⟨g, 0, none⟩) c k) (.slice y2 l2 k2) (.slice y l lc)).toArray) w := by kernel_rfl
theorem aDA {ops : Array Oper} {rest : List Oper} {o : Oper} {a : Act} {w : World} {Q : Exit -> Act -> World -> Prop} (hgd : o.guard = none) (x y : Operand) (ho : o.op = .build 42 #[(0, x), (1, y)]) (n c g l k lc : Nat) (z : Bx) (yy : Option Addr) (y2 : Option Addr) (l2 k2 : Nat) (gs : List Int)
 (hx : a.eval x = .agg (ml n z (.slice (some ⟨g, 0, none⟩) c k) (.slice y2 l2 k2)).toArray) (hy : a.eval y = .slice yy l lc)
 (h : wpList prog ops Q rest (a.put o.dst (.agg (pl n ⟨z, gs, 0, 0, 0⟩ (.slice (some ⟨g, 0, none⟩) c k) (.slice y2 l2 k2) (.slice yy l lc)).toArray)) w) : wpList prog ops Q (o :: rest) a w :=
 wpList_plain hgd fun _ hK => by
  have hrun := aFV n c g l k lc z yy y2 l2 k2 gs w
  unfold Oper.wp execOp
  simp only [ho, List.map_toArray, List.map_cons, List.map_nil, hx, hy, Sem.run_bind, hrun, Result.andThen_ok]
  exact hK _ _ h
theorem aOy {fn : Func} {q r : Tmp} (h : fn.results = #[.tmp r, .cell q 42]) (tmps : Array Value) (w : World) {b n : Nat} {p : Pt} {bk ev gv : Value} (y : Value) (hr : tmps[r]? = some y) (hp : tmps[q]? = some (.pointer (some ⟨b, 0, none⟩))) (hg : QP w b n p bk ev gv) :
 (results fn tmps).run prog w = .ok (.tuple #[y, .agg (pl n p bk ev gv).toArray]) w := by
 simp [results, h, hp, hr, asAddr, fC w b 0 _ _ _ _ _ (pl n p bk ev gv) hg underlying42 rfl (by rw [gE]; exact vP) (aL _)]
theorem aFS (w w5 : World) (n c q : Nat) (B : Bp) (x0 : Bx) (gs : List Int) (gv bk ev dv : Value) (HP : aT w5 q B ⟨x0, gs, 0, 0, 0⟩ gv) (hnw : B.new w.heap.size) (hsq : w.heap.size <= q) (he : B.n = n /\ B.c = c) (M : MV w5 c x0 bk ev) (G : jW w.heap.size w5 dv gs) (hb : Below w.heap.size w w5)
 (hx : x0.told /\ x0.es.length = 0) (hl : gs.length <= 64) (hg : ∀ g ∈ gs, 0 <= g /\ g < 4294967296) : Bo w.heap.size n c 0 w5 q B ⟨x0, gs, 0, 0, 0⟩ gv bk ev dv :=
 ⟨HP, hnw, hsq, he.1, he.2, ⟨M, G, by have := HP.bd.ok; rw [he.1, he.2] at this; exact this, HP.bd.still, ⟨hx.1, Nat.zero_le _, by rw [hx.2]; exact Nat.le_refl _, Nat.le_refl _, Int.le_refl _, (by show (0 : Int) <= ((0 : Nat) : Int) * 4294967295; omega), hl, hg⟩, by omega, hb.size⟩⟩
def aFD (n : Nat) (x0 : Bx) (gs : List Int) (w : World) (e : Ending) (w' : World) : Prop := ∃ (q : Nat) (B : Bp) (gv bk ev dv : Value), e = .returned (.tuple #[.pointer (some ⟨q, 0, none⟩), .agg (pl n ⟨x0, gs, 0, 0, 0⟩ bk ev dv).toArray]) /\ Bo w.heap.size n 1 0 w' q B ⟨x0, gs, 0, 0, 0⟩ gv bk ev dv /\ Below w.heap.size w w'
theorem aAU (w : World) (x0 : Bx) (hx0 : qQ 10 = x0) (n : Nat) (n0 : 1 <= n) (n8 : n <= 8) (gy : Option Addr) (gl gc : Nat) (gs : List Int) (hgn : gs.length = min gl 64) (hgc : gl <= gc) (hgb : ∀ g ∈ gs, 0 <= g /\ g < 4294967296) (hga : jW w.heap.size w (.slice gy gs.length gc) gs) :
 Calls prog 7 #[.int .i64 n, .slice gy gl gc] w (aFD n x0 gs w) := by
 have HNEW := Hd (fun w' => aNm n 1 10 w' n0 n8 (by decide) (by decide) (by decide) (by decide))
 have HYN := Hd (fun w' => aQF n 1 10 w' n8 (by decide))
 have HZ := Hd (show ZP (w.alloc dI) w.heap.size from ZP.new w (aD w dI))
 have HB := Hd (aE (aH w) dI)
 have hcut := aNv gy gl gc gs.length (by omega) hgc
 have hmin : min (gl : Int) 64 = (gs.length : Int) := by omega
 have HG := Hd (hga.below (aE (aH w) dI))
 have HGB := Hd hgb
 have HGL := Hd (show gs.length <= 64 by omega)
 have HX0 := Hd (show x0.told /\ x0.es.length = 0 from hx0 ▸ And.intro (aKp 10) (show (qQ 10).es.length = 0 from rfl))
 have HXX := Hd hx0
 clear hx0 n0 n8 hga hgb hgn hgc
 go_enter func7, ntmps7
 go_upto_region 1 with (fail)
 rw [bH]
 generalize w.alloc dI = W at *
 go_upto_region 2 with (go_at_call 25; refine (HNEW.out _).mono ?_; rintro e w1 ⟨B, rfl, h1, hb, h3, h7, h8, h9⟩; have HH := Hd h1; have HNW := Hd (show B.new w.heap.size from fun k hk => Nat.le_trans HB.out.size (h3 k hk)); have HE := Hd (And.intro h7 h8); have HZ := Hd (HZ.out.below hb); have HG := Hd (HG.out.below hb); have HB := Hd (tr HB.out hb); clear h1 hb h3 h7 h8 h9 HNEW)
 go_upto_region 3 with (fail)
 clear hcut hmin
 go_upto_region 4 with (go_at_call 27; refine (aP4 B (qQ 10) w.heap.size _ gs _ HH.out (aKp 10) HG.out HGL.out).mono ?_; rintro e w2 ⟨q, gv, rfl, hq, hp, hb⟩; have HSQ := Hd (Nat.le_trans HB.out.size hq); have HP := Hd (show aT w2 q B ⟨x0, gs, 0, 0, 0⟩ gv from HXX.out ▸ (show aT w2 q B ⟨qQ 10, gs, 0, 0, 0⟩ gv from hp)); have HG := Hd (HG.out.below hb); have HZ := Hd (HZ.out.below hb); have HB := Hd (tr HB.out hb); clear hq hp hb HH)
 go_upto_region 6 with (fail)
 go_wp2_with (first
  | (go_at_call 28; refine (HYN.out _).mono ?_; rintro e w5 ⟨bk, ev, rfl, M, hb⟩; rw [HXX.out] at M; have hbd := M.k; obtain ⟨gk, capk, rfl, hj1⟩ := hbd; obtain ⟨ye, cape, rfl, hj2⟩ := pU M.e; clear hj1 hj2; have HM := Hd M; have HP := Hd (HP.out.below hb); have HG := Hd (HG.out.below hb); have HZ := Hd (HZ.out.below hb); have HB := Hd (tr HB.out hb); rw [HX0.out.2] at HM ⊢; rw [HXX.out]; clear M hb HYN)
  | (refine aDA rfl (.tmp 40) (.tmp 41) rfl n 1 gk gs.length capk gc x0 gy ye 0 cape gs rfl rfl ?_)
  | (refine nD rfl (.tmp 5) (.tmp 42) rfl rfl ⟨x0, gs, 0, 0, 0⟩ (.slice (some ⟨gk, 0, none⟩) 1 capk) (.slice ye 0 cape) (.slice gy gs.length gc) n rfl HZ.out ⟨rfl, rfl, rfl⟩ ?_; intro w6 hq6 ho6))
 have HBO := aFS w w5 n 1 q B x0 gs gv _ _ _ HP.out HNW.out HSQ.out HE.out HM.out HG.out HB.out HX0.out HGL.out HGB.out
 obtain ⟨cs, hcs, _⟩ := HZ.out
 have HB2 := HBO.offP ho6 hcs (Nat.le_refl _)
 exact bodyPost_ret (aOy rfl _ _ _ rfl rfl hq6) rfl ⟨q, B, gv, _, _, _, rfl, HB2, aF.toBelow HB.out ho6 (fun k hk e => by omega) (Nat.le_refl _)⟩
theorem sM (a : Int) : ∃ N : Nat, wrap64 (1 + wrap64 ((IntKind.u64.wrap a).tmod 8)) = (N : Int) /\ 1 <= N /\ N <= 8 := by
 have h0 : 0 <= IntKind.u64.wrap a /\ IntKind.u64.wrap a < 18446744073709551616 := by
  have := bounds_u64 (wf_wrap .u64 a)
  omega
 refine ⟨(1 + (IntKind.u64.wrap a) % 8).toNat, ?_, by omega, by omega⟩
 rw [Int.tmod_eq_emod_of_nonneg h0.1]
 unfold wrap64
 omega
theorem aJm (N : Nat) (h8 : N <= 8) : IntKind.u64.wrap (N : Int) = N := by
 have : IntKind.u64.wrap (N : Int) = (N : Int) % 18446744073709551616 := rfl
 omega
theorem aCn (h : Int) (N : Nat) (h1 : 1 <= N) (h8 : N <= 8) : ∃ H : Nat, wrap64 ((IntKind.u64.wrap h).tmod (N : Int)) = (H : Int) /\ H < N := by
 have h0 : 0 <= IntKind.u64.wrap h /\ IntKind.u64.wrap h < 18446744073709551616 := by
  have := bounds_u64 (wf_wrap .u64 h)
  omega
 have hm := Int.emod_lt_of_pos (IntKind.u64.wrap h) (show (0 : Int) < N by omega)
 have hn := Int.emod_nonneg (IntKind.u64.wrap h) (show (N : Int) ≠ 0 by omega)
 refine ⟨((IntKind.u64.wrap h) % (N : Int)).toNat, ?_, by omega⟩
 rw [Int.tmod_eq_emod_of_nonneg h0.1]
 unfold wrap64
 omega
def aNf (w : World) (y : Option Addr) (len cap : Nat) : Prop := len = 0 \/ ∃ z off, ∃ zs : Nat -> Int, y = some ⟨z, off, none⟩ /\ len <= cap /\ cap <= maxLen /\ z < w.heap.size /\ ∀ i, i < cap -> w.cell? ⟨z, off + i, none⟩ = some (.int .u64 (zs i)) /\ 0 <= zs i /\ zs i < 18446744073709551616
theorem aA1 {w : World} {x : Value} (h : FitsV w (.slice (.int .u64)) x) : ∃ (y : Option Addr) (len cap : Nat), x = .slice y len cap /\ aNf w y len cap := by
 obtain ⟨y, len, cap, rfl, hy⟩ := fits_ints h
 refine ⟨y, len, cap, rfl, ?_⟩
 rcases hy with hy | ⟨b, off, zs, rfl, hl, hm, hb, hz⟩
 . exact .inl hy
 refine .inr ⟨b, off, zs, rfl, hl, hm, hb, fun i hi => ?_⟩
 have := bounds_u64 (hz i hi).2
 exact ⟨(hz i hi).1, by omega, by omega⟩
theorem aN9 (w : World) : (Op.equalIn 10000 70 (.agg #[.int .u32 4294967295, .int .u32 1, .int .u32 5]) (.agg #[.int .u32 4294967295, .int .u32 1, .int .u32 5])).run prog w = .ok true w := by kernel_rfl
theorem aAT (w : World) : Calls prog 9 #[] w fun e w' => e = .returned (.bool true) /\ Below w.heap.size w w' := by
 have HW := Hd (qK 4294967301 w (by decide) (by decide))
 rw [show hi 4294967301 = 1 from by decide, show lo 4294967301 = 5 from by decide] at HW
 have hq := aN9
 go_enter func9, ntmps9
 go_wp2_with (go_at_call 24; refine (HW.out).mono ?_; rintro e w1 ⟨rfl, hb⟩; have HB := Hd hb; clear hb HW)
 go_ret
 exact ⟨rfl, HB.out⟩
end Go.Proofs.YtaohacadochldaaGreat.B
