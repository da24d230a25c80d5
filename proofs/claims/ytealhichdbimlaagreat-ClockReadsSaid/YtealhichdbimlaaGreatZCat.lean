/- A part of the proof of a law of layer 12: at. -/
import Derived.Test.YtealhichdbimlaaGreatZCas
import Derived.Deep.RegionHeld
set_option linter.unusedVariables false
set_option linter.unusedSimpArgs false
set_option maxHeartbeats 12800000
set_option maxRecDepth 100000
namespace Go.Proofs.YtealhichdbimlaaGreat.B
open Go.Proofs.Tryz
open List renaming getElem?_toArray -> y0q, getElem?_cons_zero -> y1q, getElem?_cons_succ -> y2q
open Go.ChangeShapes Go.WideShapes Go.RowKit Go.Sort
structure Rd where
 p : Pt
 v : Int
 e : Int
def Pt.rds (n c : Nat) : Nat -> Pt -> Int -> Rd
 | 0, p, f => ⟨p, bQ f 0, 0⟩
 | k + 1, p, f => if p.lde n c 33603576 = 0 then (if p.ldp.lde n c 33603580 = 0 then (if f = p.ldp.ldv n c 33603580 then ⟨p.ldp.ldp, bQ f (p.ldv n c 33603576), 0⟩ else p.ldp.ldp.rds n c k (p.ldp.ldv n c 33603580)) else ⟨p.ldp.ldp, 0, p.ldp.lde n c 33603580⟩)
   else ⟨p.ldp, 0, p.lde n c 33603576⟩
def Pt.rd (n c : Nat) (p : Pt) : Rd := if p.lde n c 33603580 = 0 then p.ldp.rds n c 4 (p.ldv n c 33603580) else ⟨p.ldp, 0, p.lde n c 33603580⟩
theorem aPD : wh 33603580 = .cl 49148 := by unfold wh; rw [if_neg (by decide), if_pos (by decide)]; rfl
theorem aPE : wh 33603576 = .cl 49144 := by unfold wh; rw [if_neg (by decide), if_pos (by decide)]; rfl
section
variable {n c m : Nat} {p : Pt} {x : Bx}
theorem aCb : x.ldv n c 33603580 = hi x.ti /\ Bx.lde n c 33603580 = 0 := by
 unfold Bx.ldv Bx.lde
 rw [aPD]
 have e : fK n 49148 = 0 := by unfold fK; rw [if_neg (by decide), if_pos (.inr (.inl rfl))]
 refine ⟨?_, e⟩
 show kR x.ti n x.D x.S 49148 = _
 unfold kR
 rw [e, if_neg (by decide), if_neg (by decide), if_pos rfl]
theorem aCc : x.ldv n c 33603576 = lo x.ti /\ Bx.lde n c 33603576 = 0 := by
 unfold Bx.ldv Bx.lde
 rw [aPE]
 have e : fK n 49144 = 0 := by unfold fK; rw [if_neg (by decide), if_pos (.inl rfl)]
 refine ⟨?_, e⟩
 show kR x.ti n x.D x.S 49144 = _
 unfold kR
 rw [e, if_neg (by decide), if_pos rfl]
theorem mP : p.lde n c 33603580 = if p.ldp.dn = true then 13 else 0 := by
 unfold Pt.lde Pt.ldp
 rw [aCb (n := n) (c := c) (x := p.x) |>.2]
 by_cases h : p.dn = true
 . rw [if_pos h, if_pos h, if_pos h]
 . rw [if_neg h, if_neg h]
theorem zX : p.lde n c 33603576 = if p.ldp.dn = true then 13 else 0 := by
 unfold Pt.lde Pt.ldp
 rw [aCc (n := n) (c := c) (x := p.x) |>.2]
 by_cases h : p.dn = true
 . rw [if_pos h, if_pos h, if_pos h]
 . rw [if_neg h, if_neg h]
theorem aCa (h : p.ldp.dn = false) : p.dn = false /\ p.ldp = p.pass := by
 by_cases hd : p.dn = true
 . exfalso
   have e : p.ldp = p := by unfold Pt.ldp; rw [if_pos hd]
   rw [e, hd] at h
   cases h
 . exact ⟨by simpa using hd, by unfold Pt.ldp; rw [if_neg hd]⟩
theorem aGU {a : Int} (h : p.ldp.dn = false) : p.ldv n c a = p.pass.x.ldv n c a := by
 obtain ⟨h0, h1⟩ := aCa h
 rw [h1] at h
 unfold Pt.ldv
 rw [if_neg (by simp [h0]), if_neg (by simp [h])]
theorem xZ (h : p.ldp.dn = false) : p.ldv n c 33603580 = hi p.ldp.x.ti := by rw [aGU h, (aCa h).2]; exact aCb.1
theorem aEg (h : p.ldp.dn = false) : p.ldv n c 33603576 = lo p.ldp.x.ti := by rw [aGU h, (aCa h).2]; exact aCc.1
theorem fO (H : p.ok m) (ok : p.x.ok n c) (st : p.x.still) (hm : m < 4294967280) : p.ldp.ok (m + 1) /\ p.ldp.x.ok n c /\ p.ldp.x.still := by
 refine ⟨Pt.ldp_ok H st (by omega), ?_⟩
 have g := Pt.gp_bounds H.gs
 unfold Pt.ldp
 split
 . exact ⟨ok, st⟩
 . exact Bx.tick_ok ok st (N := p.gp) g.1 (by omega)
theorem aEY {t : Int} (h0 : 0 <= t) (h1 : t < 18446744073709551616) : 0 <= hi t /\ hi t < 4294967296 := ⟨jX h0, xS h1⟩
theorem jD {a : Int} (ok : p.x.ok n c) (st : p.x.still) (H : p.ok m) (ha : a = 33603580 \/ a = 33603576) : 0 <= p.ldv n c a /\ p.ldv n c a < 4294967296 := by
 unfold Pt.ldv
 split
 . exact ⟨Int.le_refl _, by decide⟩
 . split
   . exact ⟨Int.le_refl _, by decide⟩
   . have g := Pt.gp_bounds H.gs
     have o : p.pass.x.ok n c := (Bx.tick_ok ok st (N := p.gp) g.1 (by omega)).1
     rcases ha with rfl | rfl
     . rw [aCb.1]; exact aEY o.t0 o.t1
     . rw [aCc.1]; exact ⟨eV _, pR _⟩
structure aNm (n c m : Nat) (q : Pt) (r : Rd) : Prop where
 po : r.p.ok m
 ok : r.p.x.ok n c
 st : r.p.x.still
 gs : r.p.gs = q.gs
 v0 : 0 <= r.v
 v1 : r.v < 18446744073709551616
 up : r.e = 0 \/ r.e = 13 /\ r.v = 0
theorem fF : p.ldp.gs = p.gs := by unfold Pt.ldp; split <;> rfl
theorem aAy {h l : Int} (h0 : 0 <= h) (h1 : h < 4294967296) (l0 : 0 <= l) (l1 : l < 4294967296) : 0 <= bQ h l /\ bQ h l < 18446744073709551616 := by unfold bQ; omega
theorem aMs : ∀ (k m : Nat) (p : Pt) (f : Int), p.ok m -> p.x.ok n c -> p.x.still -> m + 2 * k < 4294967280 -> 0 <= f -> f < 4294967296 -> aNm n c (m + 2 * k) p (p.rds n c k f) := by
 intro k
 induction k with
 | zero =>
   intro m p f H ok st hm f0 f1
   have j := aAy f0 f1 (Int.le_refl 0) (by decide)
   exact ⟨H, ok, st, rfl, j.1, j.2, .inl rfl⟩
 | succ k ih =>
   intro m p f H ok st hm f0 f1
   obtain ⟨H1, ok1, st1⟩ := fO H ok st (by omega)
   obtain ⟨H2, ok2, st2⟩ := fO H1 ok1 st1 (by omega)
   have gs2 : p.ldp.ldp.gs = p.gs := by rw [fF, fF]
   have b1 := jD (a := 33603576) ok st H (.inr rfl)
   have b2 := jD (a := 33603580) ok1 st1 H1 (.inl rfl)
   have e1 := zX (n := n) (c := c) (p := p)
   have e2 := mP (n := n) (c := c) (p := p.ldp)
   unfold Pt.rds
   split
   . split
     . split
       . have j := aAy f0 f1 b1.1 b1.2
         exact ⟨H2.le (by omega), ok2, st2, gs2, j.1, j.2, .inl rfl⟩
       . have r := ih (m + 2) p.ldp.ldp _ H2 ok2 st2 (by omega) b2.1 b2.2
         exact ⟨r.po.le (by omega), r.ok, r.st, r.gs.trans gs2, r.v0, r.v1, r.up⟩
     . refine ⟨H2.le (by omega), ok2, st2, gs2, Int.le_refl _, (by show (0 : Int) < 18446744073709551616; decide), .inr ⟨?_, rfl⟩⟩
       show p.ldp.lde n c 33603580 = 13
       rw [e2] at *
       split at * <;> simp_all
   . refine ⟨H1.le (by omega), ok1, st1, fF, Int.le_refl _, (by show (0 : Int) < 18446744073709551616; decide), .inr ⟨?_, rfl⟩⟩
     show p.lde n c 33603576 = 13
     rw [e1] at *
     split at * <;> simp_all
theorem sC (H : p.ok m) (ok : p.x.ok n c) (st : p.x.still) (hm : m + 9 < 4294967280) : aNm n c (m + 9) p (p.rd n c) := by
 obtain ⟨H1, ok1, st1⟩ := fO H ok st (by omega)
 have b := jD (a := 33603580) ok st H (.inl rfl)
 have e := mP (n := n) (c := c) (p := p)
 unfold Pt.rd
 split
 . have r := aMs 4 (m + 1) p.ldp _ H1 ok1 st1 (by omega) b.1 b.2
   exact ⟨r.po.le (by omega), r.ok, r.st, r.gs.trans fF, r.v0, r.v1, r.up⟩
 . refine ⟨H1.le (by omega), ok1, st1, fF, Int.le_refl _, (by show (0 : Int) < 18446744073709551616; decide), .inr ⟨?_, rfl⟩⟩
   show p.lde n c 33603580 = 13
   rw [e] at *
   split at * <;> simp_all
structure sF (p : Pt) : Prop where
 wd : p.x.wd = wz
 up : p.dn = false
theorem rR {x : Bx} (h : x.wd = wz) (N : Int) : x.tick N = { x.on N with wd := wz } := by
 have e : (x.later N).wd.fa = 0 := by show (x.wd.tick N).fa = 0; rw [h]; rfl
 rw [Bx.tick_no e]
 show ({ x.on (x.wd.ran N) with wd := x.wd.tick N } : Bx) = _
 rw [h]
 rfl
theorem aDK {a b : Int} (h : a < 18446744073709551616) (hb : 0 <= b) : a <= dM a b := by unfold dM; split <;> omega
theorem sF.step (h : sF p) (ok : p.x.ok n c) (hg : ∀ g ∈ p.gs, 0 <= g /\ g < 4294967296) : sF p.ldp /\ p.x.ti <= p.ldp.x.ti /\ p.ldp.md = p.md + 1 /\ p.ldp.x.es = p.x.es /\ p.ldp.se = p.se := by
 have e : p.ldp = p.pass := by unfold Pt.ldp; rw [if_neg (by simp [h.up])]
 have et := rR h.wd p.gp
 have hu := h.up
 rw [e]
 refine ⟨⟨?_, ?_⟩, ?_, rfl, ?_, rfl⟩
 . show (p.x.tick p.gp).wd = wz
   rw [et]
 . unfold Pt.dn at *
   show decide (p.se < (p.x.tick p.gp).es.length) = false
   rw [et]
   exact hu
 . show p.x.ti <= (p.x.tick p.gp).ti
   rw [et]
   exact aDK ok.t1 (Pt.gp_bounds hg).1
 . show (p.x.tick p.gp).es = p.x.es
   rw [et]
   rfl
structure aNl (lb : Int) (p : Pt) (r : Rd) : Prop where
 e : r.e = 0
 lo : lb <= r.v
 hi : r.v <= r.p.x.ti
 cm : sF r.p
 es : r.p.x.es = p.x.es
 se : r.p.se = p.se
 mono : p.x.ti <= r.p.x.ti
theorem aMr (lb : Int) : ∀ (k m : Nat) (p : Pt) (t0 : Int), p.ok m -> p.x.ok n c -> p.x.still -> m + 2 * k < 4294967280 -> sF p -> lb <= t0 -> t0 <= p.x.ti -> 0 <= t0 -> (k = 0 -> lb <= hi t0 * 4294967296) ->
 aNl lb p (p.rds n c k (hi t0)) /\ ∃ j, (p.rds n c k (hi t0)).p.md = p.md + 2 * j /\ j <= k /\ (0 < k -> 0 < j) := by
 intro k
 induction k with
 | zero =>
   intro m p t0 H ok st hm cm h1 h2 h3 h4
   refine ⟨⟨rfl, ?_, ?_, cm, rfl, rfl, Int.le_refl _⟩, 0, rfl, Nat.le_refl _, fun h => absurd h (by omega)⟩
   . show lb <= bQ (B.hi t0) 0
     have := h4 rfl
     unfold bQ
     omega
   . show bQ (B.hi t0) 0 <= p.x.ti
     unfold bQ B.hi
     omega
 | succ k ih =>
   intro m p t0 H ok st hm cm h1 h2 h3 h4
   obtain ⟨H1, ok1, st1⟩ := fO H ok st (by omega)
   obtain ⟨H2, ok2, st2⟩ := fO H1 ok1 st1 (by omega)
   obtain ⟨c1, m1, d1, e1, s1⟩ := cm.step ok H.gs
   obtain ⟨c2, m2, d2, e2, s2⟩ := c1.step ok1 H1.gs
   have l1 : p.lde n c 33603576 = 0 := by rw [zX, if_neg (by simp [c1.up])]
   have l2 : p.ldp.lde n c 33603580 = 0 := by rw [mP, if_neg (by simp [c2.up])]
   have v1 : p.ldv n c 33603576 = B.lo p.ldp.x.ti := aEg c1.up
   have v2 : p.ldp.ldv n c 33603580 = B.hi p.ldp.ldp.x.ti := xZ c2.up
   unfold Pt.rds
   rw [if_pos l1, if_pos l2, v1, v2]
   by_cases hq : B.hi t0 = B.hi p.ldp.ldp.x.ti
   . rw [if_pos hq]
     refine ⟨⟨rfl, ?_, ?_, c2, e2.trans e1, s2.trans s1, Int.le_trans m1 m2⟩, 1, ?_, by omega, fun _ => by omega⟩
     . show lb <= bQ (B.hi t0) (B.lo p.ldp.x.ti)
       unfold bQ B.hi B.lo at *
       omega
     . show bQ (B.hi t0) (B.lo p.ldp.x.ti) <= p.ldp.ldp.x.ti
       unfold bQ B.hi B.lo at *
       omega
     . show p.ldp.ldp.md = _
       rw [d2, d1]
   . rw [if_neg hq]
     obtain ⟨r, j, hj, hk, hp⟩ := ih (m + 2) p.ldp.ldp p.ldp.ldp.x.ti H2 ok2 st2 (by omega) c2 (by omega) (Int.le_refl _) (by omega) (fun _ => by unfold B.hi at *; omega)
     refine ⟨⟨r.e, r.lo, r.hi, r.cm, r.es.trans (e2.trans e1), r.se.trans (s2.trans s1), Int.le_trans (Int.le_trans m1 m2) r.mono⟩, j + 1, ?_, by omega, fun _ => by omega⟩
     rw [hj, d2, d1]
     omega
theorem aOt (H : p.ok m) (ok : p.x.ok n c) (st : p.x.still) (hm : m + 9 < 4294967280) (cm : sF p) : aNl p.x.ti p (p.rd n c) /\ ∃ j, (p.rd n c).p.md = p.md + (2 * j + 1) /\ 1 <= j /\ j <= 4 := by
 obtain ⟨H1, ok1, st1⟩ := fO H ok st (by omega)
 obtain ⟨c1, m1, d1, e1, s1⟩ := cm.step ok H.gs
 have l1 : p.lde n c 33603580 = 0 := by rw [mP, if_neg (by simp [c1.up])]
 have v1 : p.ldv n c 33603580 = B.hi p.ldp.x.ti := xZ c1.up
 unfold Pt.rd
 rw [if_pos l1, v1]
 obtain ⟨r, j, hj, hk, hp⟩ := aMr p.x.ti 4 (m + 1) p.ldp p.ldp.x.ti H1 ok1 st1 (by omega) c1 m1 (Int.le_refl _) (by have := ok.t0; omega) (fun h => absurd h (by decide))
 refine ⟨⟨r.e, r.lo, r.hi, r.cm, r.es.trans e1, r.se.trans s1, Int.le_trans m1 r.mono⟩, j, ?_, hp (by omega), hk⟩
 rw [hj, d1]
 omega
end
section
variable {P : Program} {ops : Array Oper} {Q : Exit -> Act -> World -> Prop} {md : Region.Mode} {S : World -> Prop}
theorem sK {i : Nat} {oi : Oper} {v : Value} {fuel : Nat} {listed : Array Bool} {a : Act} {w : World} (hi : ops[i]? = some oi)
 (hb : (Region.noSelect ops && Region.free md ops listed i && (Region.ready md ops listed).contains i && Region.wanted oi (yielded ops a.tmps)) = true)
 (hQ : ∀ c a w, Q (.panic c) (a.put oi.dst v) w -> Q (.panic c) a w) (hy : ∀ w, S w -> (execOp a.eval oi).run P w = .ok (.value v) w) (hS : S w)
 (h : wpAnyH P md ops Q S fuel (listed.setIfInBounds i true) (a.put oi.dst v) w) : wpAnyH P md ops Q S (fuel + 1) listed a w := by
 simp only [Bool.and_eq_true] at hb
 exact wpAnyH_take hi hb.1.1.1 hb.1.1.2 hb.1.2 hQ (.inl ⟨hb.2, hy⟩) hS h
theorem eD {i : Nat} {oi : Oper} {v : Value} {fuel : Nat} {listed : Array Bool} {a : Act} {w : World} (hS : S w) (h : wpAnyH P md ops Q S fuel (listed.setIfInBounds i true) (a.put oi.dst v) w) (hi : ops[i]? = some oi := by exact rfl)
 (hb : (Region.noSelect ops && Region.free md ops listed i && (Region.ready md ops listed).contains i && Region.wanted oi (yielded ops a.tmps)) = true := by kernel_rfl)
 (hQ : ∀ c a w, Q (.panic c) (a.put oi.dst v) w -> Q (.panic c) a w := by exact fun _ _ _ h => h) (hy : ∀ w, S w -> (execOp a.eval oi).run P w = .ok (.value v) w := by intro w' hSw; clear hSw; go_simp) :
 wpAnyH P md ops Q S (fuel + 1) listed a w := sK hi hb hQ hy hS h
theorem oC {fuel : Nat} {listed : Array Bool} {a : Act} {w : World} {i : Nat} {o : Oper} (hr : Region.ready md ops listed = [i]) (ho : ops[i]? = some o)
 (h : ∀ K' : Act -> World -> Prop, Shut (∀ a w, S w -> (S w -> wpAnyH P md ops Q S fuel (listed.setIfInBounds i true) a w) -> K' a w) -> if Region.wanted o (yielded ops a.tmps) = true then Oper.wp P o a w K' Q else K' (a.put o.dst undef) w) :
 wpAnyH P md ops Q S (fuel + 1) listed a w := wpAnyH_ready hr (by simp) (AllReadyH.cons ho h AllReadyH.nil)
end
theorem iF {α : Type} {xs : List α} {i : Nat} (h : i < xs.toArray.size) : xs.toArray[i]'h = xs[i]'(by simpa using h) := List.getElem_toArray h
theorem iH {α : Type} {a : α} {bs : List α} (h : 0 < (a :: bs).length) : (a :: bs)[0]'h = a := List.getElem_cons_zero _ _ h
theorem iG {α : Type} {a : α} {bs : List α} {i : Nat} (h : i + 1 < (a :: bs).length) : (a :: bs)[i + 1]'h = bs[i]'(by simpa using h) := List.getElem_cons_succ _ _ _ h
theorem dG {α : Type} {l : List α} {i : Nat} {x : α} : l.toArray.setIfInBounds i x = (l.set i x).toArray := List.setIfInBounds_toArray _ _ _
theorem dI {α : Type} {x y : α} {l : List α} : (x :: l).set 0 y = y :: l := List.set_cons_zero
theorem dH {α : Type} {x y : α} {l : List α} {n : Nat} : (x :: l).set (n + 1) y = x :: l.set n y := List.set_cons_succ
section
variable {n c : Nat} {x : Bx} {N : Int}
theorem aEd (h : x.still) (hf : (x.later N).wd.fa = 0) : (x.later N).due = 0 := by
 unfold Bx.due; rw [if_neg (by show ¬ x.rs.qs = true; rw [h.2]; decide)]; exact hf
theorem uB (h : x.still) (hf : (x.later N).wd.fa ≠ 0) : (x.later N).due = 2 := by
 unfold Bx.due; rw [if_neg (by show ¬ x.rs.qs = true; rw [h.2]; decide)]; exact kI h.1 hf
theorem aBZ (h : x.still) (hf : (x.later N).wd.fa ≠ 0) : x.tick N = ((x.later N).rst 2).later (N - x.wd.ran N) := by
 rw [Bx.tick_yes hf, show (x.later N).wd.fa = 2 from kI h.1 hf, Bx.rst_later]
theorem aE3 (ok : x.ok n c) (h : x.still) (hf : (x.later N).wd.fa ≠ 0) (n0 : 0 <= N) (n1 : N < 18446744073709551616) (he : x.wd.ran N = N) : x.tick N = (x.later N).rst 2 := by
 have hl := Bx.later_ok ok h.1 n0 n1
 rw [aBZ h hf, he, Int.sub_self, Bx.rst_later, xH hl.t0 hl.t1, Rk.tick_zero (Rk.zero_ok hl.rk)]
 rfl
theorem aJH (x : Bx) (k : Int) : ((x.rst 2).later k).due = 0 := by
 unfold Bx.due; rw [if_neg (by show ¬ (x.rs.ltc 2).qs = true; rw [aCk zL]; decide)]; rfl
end
theorem nD {P : Prop} (h : P := by
 clear HR HO R1 O1 c0 c1 c2 c3 c4 c5
 go_wp2_with fail
 rw [Exit.noGoto_normal]
 go_end0
 exact ⟨rfl, HL.out⟩
 ) : P := h
theorem aCD (B : Bp) (x : Bx) (N : Int) (w : World) (H : bA w B x) (n0 : 0 <= N) (n1 : N < 18446744073709551616) (hN : N = 0) :
 Calls prog 20 #[.pointer (some ⟨B.b, 0, none⟩), .int .u64 N] w fun e w' => e = .returned (.tuple #[]) /\ kW B (x.tick N) w w' := by
 have HST := Hd (Bx.tick_ok H.ok H.still n0 n1)
 have hX := H.raw.cells
 have c0 := aA hX 0
 have c1 := aA hX 1
 have c2 := aA hX 2
 have c3 := aA hX 3
 have c4 := aA hX 4
 have c5 := aA hX 5
 simp only [y0q, y1q, y2q] at c0 c1 c2 c3 c4 c5
 subst hN
 have HLK := Hd (Bx.tick_zero H.ok H.still)
 have HOK := Hd H.ok
 have HFA := Hd H.still.1
 have HR := Hd H.raw
 have HO := Hd (aF.refl B.own w)
 clear hX H
 go_enter func20, ntmps20
 go_wp2_with fail
 go_step3
 go_wp2_with fail
 go_step3
 go_wp2_with fail
 refine wp_loop_rounds 1 ?_
 rw [rounds_succ]
 go_wp2_with fail
 refine (yV B _ _ _ HR.out.dv HOK.out).mono ?_
 rintro e w1 ⟨rfl, dA, hoA⟩
 have R1 := HR.out.turn dA hoA rfl
 have O1 := HO.out.trans (hI (B := B) hoA)
 clear dA hoA
 have HL := Hd (show kW B (x.tick 0) w w1 from ⟨B.ev, (R1.done HOK.out (HLK.out.symm.still HST.out.2)).like HLK.out, O1, fun k hk => .inl hk⟩)
 exact nD
theorem aCB (B : Bp) (x : Bx) (N : Int) (w : World) (H : bA w B x) (n0 : 0 <= N) (n1 : N < 18446744073709551616) (hN : 0 < N) (hf : (x.later N).wd.fa = 0) :
 Calls prog 20 #[.pointer (some ⟨B.b, 0, none⟩), .int .u64 N] w fun e w' => e = .returned (.tuple #[]) /\ kW B (x.tick N) w w' := by
 have HST := Hd (Bx.tick_ok H.ok H.still n0 n1)
 have hX := H.raw.cells
 have c0 := aA hX 0
 have c1 := aA hX 1
 have c2 := aA hX 2
 have c3 := aA hX 3
 have c4 := aA hX 4
 have c5 := aA hX 5
 simp only [y0q, y1q, y2q] at c0 c1 c2 c3 c4 c5
 have HRN := Hd (show x.wd.ran N = N from aI7 H.still.1 hf)
 have HDU := Hd (aEd H.still hf)
 have HOK1 := Hd (Bx.later_ok H.ok H.still.1 n0 n1)
 have HTE := Hd (Bx.tick_no hf)
 clear hf
 have HOK := Hd H.ok
 have HFA := Hd H.still.1
 have HR := Hd H.raw
 have HO := Hd (aF.refl B.own w)
 clear hX H
 go_enter func20, ntmps20
 go_wp2_with fail
 go_step3
 go_wp2_with fail
 go_step3
 go_wp2_with fail
 refine wp_loop_rounds 2 ?_
 rw [rounds_succ]
 go_wp2_with fail
 refine (aAU B _ _ (N) _ HR.out.dv HOK.out HFA.out n0 n1).mono ?_
 rw [HRN.out]
 rintro e w1 ⟨rfl, dA, hoA⟩
 have R1 := HR.out.turn dA hoA rfl
 have O1 := HO.out.trans (hI (B := B) hoA)
 clear dA hoA HR HO
 have hX1 := R1.cells
 clear c0 c1 c2 c3 c4 c5
 have c0 := aA hX1 0
 have c1 := aA hX1 1
 have c2 := aA hX1 2
 have c3 := aA hX1 3
 have c4 := aA hX1 4
 have c5 := aA hX1 5
 simp only [y0q, y1q, y2q] at c0 c1 c2 c3 c4 c5
 have HR := Hd R1
 have HO := Hd O1
 clear R1 hX1 O1
 go_wp2_with fail
 refine (aE9 B _ _ _ HR.out.dv HOK1.out).mono ?_
 rw [HDU.out]
 rintro e w2 ⟨rfl, hbA⟩
 have R1 := HR.out.below hbA
 have O1 := HO.out.trans (aF.ofBelow (S := B.own) hbA)
 clear hbA HR HO
 have hX1 := R1.cells
 clear c0 c1 c2 c3 c4 c5
 have c0 := aA hX1 0
 have c1 := aA hX1 1
 have c2 := aA hX1 2
 have c3 := aA hX1 3
 have c4 := aA hX1 4
 have c5 := aA hX1 5
 simp only [y0q, y1q, y2q] at c0 c1 c2 c3 c4 c5
 have HR := Hd R1
 have HO := Hd O1
 clear R1 hX1 O1
 go_wp2_with fail
 rw [rounds_succ]
 go_wp2_with fail
 refine (yV B _ _ _ HR.out.dv HOK1.out).mono ?_
 rintro e w3 ⟨rfl, dA, hoA⟩
 have R1 := HR.out.turn dA hoA rfl
 have O1 := HO.out.trans (hI (B := B) hoA)
 clear dA hoA
 have HL := Hd (show kW B (x.tick N) w w3 from zZ (y := x.tick N) (HTE.out ▸ R1) HST.out.1 HST.out.2 O1)
 exact nD
theorem aCC (B : Bp) (x : Bx) (N : Int) (w : World) (H : bA w B x) (n0 : 0 <= N) (n1 : N < 18446744073709551616) (hN : 0 < N) (hf : (x.later N).wd.fa ≠ 0) (he : x.wd.ran N = N) (hl : x.es.length < 4294967296) :
 Calls prog 20 #[.pointer (some ⟨B.b, 0, none⟩), .int .u64 N] w fun e w' => e = .returned (.tuple #[]) /\ kW B (x.tick N) w w' := by
 have HST := Hd (Bx.tick_ok H.ok H.still n0 n1)
 have hX := H.raw.cells
 have c0 := aA hX 0
 have c1 := aA hX 1
 have c2 := aA hX 2
 have c3 := aA hX 3
 have c4 := aA hX 4
 have c5 := aA hX 5
 simp only [y0q, y1q, y2q] at c0 c1 c2 c3 c4 c5
 have HDU := Hd (uB H.still hf)
 have HOK1 := Hd (Bx.later_ok H.ok H.still.1 n0 n1)
 have HLE := Hd (show (x.later N).es.length < 4294967296 from hl)
 have HOK2 := Hd (Bx.rst_ok (Bx.later_ok H.ok H.still.1 n0 n1) 2)
 have HRN := Hd he
 have HTE := Hd (aE3 H.ok H.still hf n0 n1 he)
 clear hf he hl
 have HOK := Hd H.ok
 have HFA := Hd H.still.1
 have HR := Hd H.raw
 have HO := Hd (aF.refl B.own w)
 clear hX H
 go_enter func20, ntmps20
 go_wp2_with fail
 go_step3
 go_wp2_with fail
 go_step3
 go_wp2_with fail
 refine wp_loop_rounds 2 ?_
 rw [rounds_succ]
 go_wp2_with fail
 refine (aAU B _ _ (N) _ HR.out.dv HOK.out HFA.out n0 n1).mono ?_
 rw [HRN.out]
 rintro e w1 ⟨rfl, dA, hoA⟩
 have R1 := HR.out.turn dA hoA rfl
 have O1 := HO.out.trans (hI (B := B) hoA)
 clear dA hoA HR HO
 have hX1 := R1.cells
 clear c0 c1 c2 c3 c4 c5
 have c0 := aA hX1 0
 have c1 := aA hX1 1
 have c2 := aA hX1 2
 have c3 := aA hX1 3
 have c4 := aA hX1 4
 have c5 := aA hX1 5
 simp only [y0q, y1q, y2q] at c0 c1 c2 c3 c4 c5
 have HR := Hd R1
 have HO := Hd O1
 clear R1 hX1 O1
 go_wp2_with fail
 refine (aE9 B _ _ _ HR.out.dv HOK1.out).mono ?_
 rw [HDU.out]
 rintro e w2 ⟨rfl, hbA⟩
 have R1 := HR.out.below hbA
 have O1 := HO.out.trans (aF.ofBelow (S := B.own) hbA)
 clear hbA HR HO
 have hX1 := R1.cells
 clear c0 c1 c2 c3 c4 c5
 have c0 := aA hX1 0
 have c1 := aA hX1 1
 have c2 := aA hX1 2
 have c3 := aA hX1 3
 have c4 := aA hX1 4
 have c5 := aA hX1 5
 simp only [y0q, y1q, y2q] at c0 c1 c2 c3 c4 c5
 have HR := Hd R1
 have HO := Hd O1
 clear R1 hX1 O1
 go_wp2_with fail
 refine (yY B _ _ 2 _ HR.out HOK1.out HLE.out).mono ?_
 rintro e w3 ⟨rfl, ev', R1, hoA, heA⟩
 have O1 := HO.out.trans hoA
 have HEV := Hd (show ∀ k, ev'.ownBlock = some k -> B.ev.ownBlock = some k \/ w.heap.size <= k from fun k hk => (heA k hk).imp id fun h => Nat.le_trans HO.out.size h)
 clear hoA heA HR HO
 have hX1 := R1.cells
 clear c0 c1 c2 c3 c4 c5
 have c0 := aA hX1 0
 have c1 := aA hX1 1
 have c2 := aA hX1 2
 have c3 := aA hX1 3
 have c4 := aA hX1 4
 have c5 := aA hX1 5
 simp only [y0q, y1q, y2q] at c0 c1 c2 c3 c4 c5
 have HR := Hd R1
 have HO := Hd O1
 clear R1 hX1 O1
 go_wp2_with fail
 rw [rounds_succ]
 go_wp2_with fail
 refine (yV { B with ev := ev' } _ _ _ HR.out.dv HOK2.out).mono ?_
 rintro e w4 ⟨rfl, dA, hoA⟩
 have R1 := HR.out.turn dA hoA rfl
 have O1 := HO.out.trans (hI (B := B) hoA)
 clear dA hoA
 have HL := Hd (show kW B (x.tick N) w w4 from zY (y := x.tick N) (HTE.out ▸ R1) HST.out.1 HST.out.2 O1 HEV.out)
 exact nD
theorem aAi (B : Bp) (x : Bx) (N : Int) (w : World) (H : bA w B x) (n0 : 0 <= N) (n1 : N < 18446744073709551616) (hN : 0 < N) (hf : (x.later N).wd.fa ≠ 0) (k : Int) (hr : x.wd.ran N = k) (k0 : 0 <= k) (k1 : k < N) (hl : x.es.length < 4294967296) :
 Calls prog 20 #[.pointer (some ⟨B.b, 0, none⟩), .int .u64 N] w fun e w' => e = .returned (.tuple #[]) /\ kW B (x.tick N) w w' := by
 have HST := Hd (Bx.tick_ok H.ok H.still n0 n1)
 have hX := H.raw.cells
 have c0 := aA hX 0
 have c1 := aA hX 1
 have c2 := aA hX 2
 have c3 := aA hX 3
 have c4 := aA hX 4
 have c5 := aA hX 5
 simp only [y0q, y1q, y2q] at c0 c1 c2 c3 c4 c5
 have HDU := Hd (uB H.still hf)
 have HOK1 := Hd (Bx.later_ok H.ok H.still.1 n0 n1)
 have HLE := Hd (show (x.later N).es.length < 4294967296 from hl)
 have HOK2 := Hd (Bx.rst_ok (Bx.later_ok H.ok H.still.1 n0 n1) 2)
 have HRN := Hd hr
 have HTE := Hd (show x.tick N = ((x.later N).rst 2).later (N - k) by rw [aBZ H.still hf, hr])
 have HOK3 := Hd (show (((x.later N).rst 2).later (N - k)).ok B.n B.c from Bx.later_ok (Bx.rst_ok (Bx.later_ok H.ok H.still.1 n0 n1) 2) rfl (by omega) (by omega))
 have HRZ := Hd (aHs (N - k))
 obtain ⟨m, hm⟩ : ∃ m, N - k = m := ⟨_, rfl⟩
 have m0 : 0 < m := by omega
 have m1 : m < 18446744073709551616 := by omega
 have m2 : 0 <= m := by omega
 rw [hm] at HTE HOK3 HRZ
 clear hf hr hl
 have HOK := Hd H.ok
 have HFA := Hd H.still.1
 have HR := Hd H.raw
 have HO := Hd (aF.refl B.own w)
 clear hX H
 go_enter func20, ntmps20
 go_wp2_with fail
 go_step3
 go_wp2_with fail
 go_step3
 go_wp2_with fail
 refine wp_loop_rounds 3 ?_
 rw [rounds_succ]
 go_wp2_with fail
 refine (aAU B _ _ (N) _ HR.out.dv HOK.out HFA.out n0 n1).mono ?_
 rw [HRN.out]
 rintro e w1 ⟨rfl, dA, hoA⟩
 have R1 := HR.out.turn dA hoA rfl
 have O1 := HO.out.trans (hI (B := B) hoA)
 clear dA hoA HR HO
 have hX1 := R1.cells
 clear c0 c1 c2 c3 c4 c5
 have c0 := aA hX1 0
 have c1 := aA hX1 1
 have c2 := aA hX1 2
 have c3 := aA hX1 3
 have c4 := aA hX1 4
 have c5 := aA hX1 5
 simp only [y0q, y1q, y2q] at c0 c1 c2 c3 c4 c5
 have HR := Hd R1
 have HO := Hd O1
 clear R1 hX1 O1
 go_wp2_with fail
 refine (aE9 B _ _ _ HR.out.dv HOK1.out).mono ?_
 rw [HDU.out]
 rintro e w2 ⟨rfl, hbA⟩
 have R1 := HR.out.below hbA
 have O1 := HO.out.trans (aF.ofBelow (S := B.own) hbA)
 clear hbA HR HO
 have hX1 := R1.cells
 clear c0 c1 c2 c3 c4 c5
 have c0 := aA hX1 0
 have c1 := aA hX1 1
 have c2 := aA hX1 2
 have c3 := aA hX1 3
 have c4 := aA hX1 4
 have c5 := aA hX1 5
 simp only [y0q, y1q, y2q] at c0 c1 c2 c3 c4 c5
 have HR := Hd R1
 have HO := Hd O1
 clear R1 hX1 O1
 go_wp2_with fail
 refine (yY B _ _ 2 _ HR.out HOK1.out HLE.out).mono ?_
 rintro e w3 ⟨rfl, ev', R1, hoA, heA⟩
 have O1 := HO.out.trans hoA
 have HEV := Hd (show ∀ k, ev'.ownBlock = some k -> B.ev.ownBlock = some k \/ w.heap.size <= k from fun k hk => (heA k hk).imp id fun h => Nat.le_trans HO.out.size h)
 clear hoA heA HR HO
 have hX1 := R1.cells
 clear c0 c1 c2 c3 c4 c5
 have c0 := aA hX1 0
 have c1 := aA hX1 1
 have c2 := aA hX1 2
 have c3 := aA hX1 3
 have c4 := aA hX1 4
 have c5 := aA hX1 5
 simp only [y0q, y1q, y2q] at c0 c1 c2 c3 c4 c5
 have HR := Hd R1
 have HO := Hd O1
 clear R1 hX1 O1
 go_wp2_with fail
 rw [rounds_succ]
 go_wp2_with fail
 refine (aAU { B with ev := ev' } _ _ (m) _ HR.out.dv HOK2.out rfl m2 m1).mono ?_
 rw [show ((x.later N).rst 2).wd.ran m = m from HRZ.out]
 rintro e w4 ⟨rfl, dA, hoA⟩
 have R1 := HR.out.turn dA hoA rfl
 have O1 := HO.out.trans (hI (B := B) hoA)
 clear dA hoA HR HO
 have hX1 := R1.cells
 clear c0 c1 c2 c3 c4 c5
 have c0 := aA hX1 0
 have c1 := aA hX1 1
 have c2 := aA hX1 2
 have c3 := aA hX1 3
 have c4 := aA hX1 4
 have c5 := aA hX1 5
 simp only [y0q, y1q, y2q] at c0 c1 c2 c3 c4 c5
 have HR := Hd R1
 have HO := Hd O1
 clear R1 hX1 O1
 go_wp2_with fail
 refine (aE9 { B with ev := ev' } _ _ _ HR.out.dv HOK3.out).mono ?_
 rw [aJH]
 rintro e w5 ⟨rfl, hbA⟩
 have R1 := HR.out.below hbA
 have O1 := HO.out.trans (aF.ofBelow (S := B.own) hbA)
 clear hbA HR HO
 have hX1 := R1.cells
 clear c0 c1 c2 c3 c4 c5
 have c0 := aA hX1 0
 have c1 := aA hX1 1
 have c2 := aA hX1 2
 have c3 := aA hX1 3
 have c4 := aA hX1 4
 have c5 := aA hX1 5
 simp only [y0q, y1q, y2q] at c0 c1 c2 c3 c4 c5
 have HR := Hd R1
 have HO := Hd O1
 clear R1 hX1 O1
 go_wp2_with fail
 rw [rounds_succ]
 go_wp2_with fail
 refine (yV { B with ev := ev' } _ _ _ HR.out.dv HOK3.out).mono ?_
 rintro e w6 ⟨rfl, dA, hoA⟩
 have R1 := HR.out.turn dA hoA rfl
 have O1 := HO.out.trans (hI (B := B) hoA)
 clear dA hoA
 have HL := Hd (show kW B (x.tick N) w w6 from zY (y := x.tick N) (HTE.out ▸ R1) HST.out.1 HST.out.2 O1 HEV.out)
 exact nD
theorem sZ (B : Bp) (x : Bx) (N : Int) (w : World) (H : bA w B x) (n0 : 0 <= N) (n1 : N < 18446744073709551616) (hl : x.es.length < 4294967296) :
 Calls prog 20 #[.pointer (some ⟨B.b, 0, none⟩), .int .u64 N] w fun e w' => e = .returned (.tuple #[]) /\ kW B (x.tick N) w w' := by
 by_cases hN : N = 0
 . exact aCD B x N w H n0 n1 hN
 . by_cases hf : (x.later N).wd.fa = 0
   . exact aCB B x N w H n0 n1 (by omega) hf
   . have hb := gG H.ok.wd H.still.1 n0
     by_cases he : x.wd.ran N = N
     . exact aCC B x N w H n0 n1 (by omega) hf he hl
     . exact aAi B x N w H n0 n1 (by omega) hf _ rfl hb.1 (by omega) hl
end Go.Proofs.YtealhichdbimlaaGreat.B
