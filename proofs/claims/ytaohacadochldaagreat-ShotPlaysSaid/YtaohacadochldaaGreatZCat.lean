/- A part of the proof of a law of layer 12: at. -/
import Derived.Test.YtaohacadochldaaGreatZCas
import Derived.Deep.RegionHeld
import Derived.Deep.RegionHeld3
set_option linter.unusedVariables false
set_option linter.unusedSimpArgs false
set_option maxHeartbeats 12800000
set_option maxRecDepth 100000
namespace Go.Proofs.YtaohacadochldaaGreat.B
open Go.Proofs.Tryz
open List renaming getElem?_toArray -> y0q, getElem?_cons_zero -> y1q, getElem?_cons_succ -> y2q
open Go.ChangeShapes Go.WideShapes Go.RowKit Go.Sort
def ca (h : Nat) : Int := 33570816 + 8 * (h : Int)
section
variable {n c m h : Nat} {p : Pt} {x : Bx} {v : Int}
theorem iY (h8 : h < 8) : 0 <= ca h /\ ca h < 4294967290 := by unfold ca; omega
theorem aKt (h8 : h < 8) : wh (ca h) = .cl (16384 + 8 * (h : Int)) := by
 unfold wh ca
 rw [if_neg (by omega), if_pos (by omega)]
 congr 1
 omega
theorem aHv (h8 : h < 8) : wh (ca h + 4) = .cl (16384 + 8 * (h : Int) + 4) := by
 unfold wh ca
 rw [if_neg (by omega), if_pos (by omega)]
 congr 1
 omega
def Bx.cmp (x : Bx) (h : Nat) (d : Int) : Bx := { x with D := upd x.D h d }
theorem aD1 (st : x.still) (hn : h < n) (h8 : n <= 8) : x.sto n c (ca h) v = x.cmp h (cZ (hi (x.D h)) v) := by
 have e : x.put n c (ca h) v = x.cmp h (cZ (hi (x.D h)) v) := by
  unfold Bx.put
  rw [aKt (by omega)]
  show ({ x with D := eT n x.D (16384 + 8 * (h : Int)) v, S := eU n x.S (16384 + 8 * (h : Int)) v } : Bx) = _
  rw [uM hn h8, uN hn]
  rfl
 unfold Bx.sto
 rw [e]
 exact Bx.look_still ⟨st.1, st.2⟩
theorem aHh (st : x.still) (hn : h < n) (h8 : n <= 8) : x.sto n c (ca h + 4) v = x.cmp h (cZ v (lo (x.D h))) := by
 have e : x.put n c (ca h + 4) v = x.cmp h (cZ v (lo (x.D h))) := by
  unfold Bx.put
  rw [aHv (by omega)]
  show ({ x with D := eT n x.D (16384 + 8 * (h : Int) + 4) v, S := eU n x.S (16384 + 8 * (h : Int) + 4) v } : Bx) = _
  rw [rP hn h8, rQ hn]
  rfl
 unfold Bx.sto
 rw [e]
 exact Bx.look_still ⟨st.1, st.2⟩
theorem aJM (hn : h < n) (h8 : n <= 8) : Bx.ste n c (ca h) = 0 := by
 unfold Bx.ste
 rw [aKt (by omega)]
 exact qA hn h8
theorem aHf (hn : h < n) (h8 : n <= 8) : Bx.ste n c (ca h + 4) = 0 := by
 unfold Bx.ste
 rw [aHv (by omega)]
 exact oA hn h8
def caW (h : Nat) (a : Int) : Prop := a = ca h \/ a = ca h + 4
theorem aKo {a : Int} (hn : h < n) (h8 : n <= 8) (ha : caW h a) : Bx.ste n c a = 0 := by
 rcases ha with rfl | rfl
 . exact aJM hn h8
 . exact aHf hn h8
theorem gX {a : Int} (hn : h < n) (h8 : n <= 8) (ha : caW h a) : p.ste n c a v = 0 \/ p.ste n c a v = 13 := by
 unfold Pt.ste
 rw [aKo hn h8 ha]
 split
 . exact .inr rfl
 . split
   . exact .inr rfl
   . split
     . exact .inr rfl
     . exact .inl rfl
theorem cV (H : p.ok m) (ok : p.x.ok n c) (st : p.x.still) (hm : m < 4294967280) (a : Int) (v0 : 0 <= v) (v1 : v < 4294967296) : (p.stp n c a v).ok (m + 1) /\ (p.stp n c a v).x.ok n c /\ (p.stp n c a v).x.still := by
 have g := Pt.gp_bounds H.gs
 have t := Bx.tick_ok ok st (N := p.gp) g.1 (by omega)
 refine ⟨Pt.stp_ok H st t.2 (by omega) a v, ?_⟩
 unfold Pt.stp
 split
 . exact ⟨ok, st⟩
 . split
   . exact t
   . exact Bx.sto_ok t.1 t.2 v0 v1
structure Am where
 p : Pt
 e : Int
def Pt.arm (n c : Nat) (p : Pt) (h : Nat) (d : Int) : Am :=
 if p.ste n c (ca h) 4294967295 = 0 then
  (if (p.stp n c (ca h) 4294967295).ste n c (ca h + 4) (hi d) = 0 then
    ⟨((p.stp n c (ca h) 4294967295).stp n c (ca h + 4) (hi d)).stp n c (ca h) (lo d), ((p.stp n c (ca h) 4294967295).stp n c (ca h + 4) (hi d)).ste n c (ca h) (lo d)⟩
  else ⟨(p.stp n c (ca h) 4294967295).stp n c (ca h + 4) (hi d), (p.stp n c (ca h) 4294967295).ste n c (ca h + 4) (hi d)⟩)
 else ⟨p.stp n c (ca h) 4294967295, p.ste n c (ca h) 4294967295⟩
theorem gM (a : Int) : (p.stp n c a v).gs = p.gs := by
 unfold Pt.stp
 split
 . rfl
 . split <;> rfl
structure aKy (n c m : Nat) (q : Pt) (r : Am) : Prop where
 po : r.p.ok m
 ok : r.p.x.ok n c
 st : r.p.x.still
 gs : r.p.gs = q.gs
 up : r.e = 0 \/ r.e = 13
theorem zG {d : Int} (H : p.ok m) (ok : p.x.ok n c) (st : p.x.still) (hm : m < 4294967270) (hn : h < n) (d0 : 0 <= d) (d1 : d < 18446744073709551616) : aKy n c (m + 3) p (p.arm n c h d) := by
 have h8 := ok.n8
 have b1 := fZ d0 d1
 obtain ⟨H1, ok1, st1⟩ := cV H ok st (by omega) (ca h) (v := 4294967295) (by decide) (by decide)
 obtain ⟨H2, ok2, st2⟩ := cV H1 ok1 st1 (by omega) (ca h + 4) b1.1 b1.2
 obtain ⟨H3, ok3, st3⟩ := cV H2 ok2 st2 (by omega) (ca h) (dQ d) (mF d)
 unfold Pt.arm
 split
 . split
   . exact ⟨H3, ok3, st3, by rw [gM, gM, gM], gX hn h8 (.inl rfl)⟩
   . exact ⟨H2.le (by omega), ok2, st2, by rw [gM, gM], gX hn h8 (.inr rfl)⟩
 . exact ⟨H1.le (by omega), ok1, st1, gM _, gX hn h8 (.inl rfl)⟩
theorem tO {a : Int} (cm : qR p) (ok : p.x.ok n c) (st : p.x.still) (H : p.ok m) (hn : h < n) (ha : caW h a) (dv : Int) (hd : p.pass.x.sto n c a v = p.pass.x.cmp h dv) :
 p.ste n c a v = 0 /\ qR (p.stp n c a v) /\ (p.stp n c a v).x.D = upd p.x.D h dv /\ (p.stp n c a v).md = p.md + 1 := by
 obtain ⟨c1, _, d1, e1, s1⟩ := cm.step ok H.gs
 have hu := cm.up
 have ep : p.ldp = p.pass := by unfold Pt.ldp; rw [if_neg (by simp [hu])]
 rw [ep] at c1
 have ht := sE cm.wd p.gp
 have hD : p.pass.x.D = p.x.D := by
  show (p.x.tick p.gp).D = p.x.D
  rw [ht]
  rfl
 have es : p.stp n c a v = p.pass.put n c a v := by
  unfold Pt.stp
  rw [if_neg (by simp [hu]), if_neg (by simp [c1.up])]
 have ex : (p.pass.put n c a v).x = p.pass.x.cmp h dv := hd
 have hdn : (p.pass.put n c a v).dn = false := by
  have := c1.up
  unfold Pt.dn at *
  rw [ex]
  exact this
 refine ⟨?_, ?_, ?_, ?_⟩
 . unfold Pt.ste
   rw [if_neg (by simp [hu]), if_neg (by simp [c1.up]), if_neg (by simp [hdn]), aKo hn ok.n8 ha]
 . rw [es]
   exact ⟨by rw [ex]; exact c1.wd, hdn⟩
 . rw [es, ex]
   show upd p.pass.x.D h dv = _
   rw [hD]
 . rw [es]
   rfl
theorem aG4 (cm : qR p) : p.pass.x.D = p.x.D := by
 show (p.x.tick p.gp).D = p.x.D
 rw [sE cm.wd]
 rfl
theorem tJ {d : Int} (H : p.ok m) (ok : p.x.ok n c) (st : p.x.still) (cm : qR p) (hm : m < 4294967270) (hn : h < n) (d0 : 0 <= d) (d1 : d < 18446744073709551616) :
 (p.arm n c h d).e = 0 /\ qR (p.arm n c h d).p /\ (p.arm n c h d).p.x.D h = d /\ (∀ i, i ≠ h -> (p.arm n c h d).p.x.D i = p.x.D i) /\ (p.arm n c h d).p.md = p.md + 3 := by
 have h8 := ok.n8
 have b1 := fZ d0 d1
 obtain ⟨H1, ok1, st1⟩ := cV H ok st (by omega) (ca h) (v := 4294967295) (by decide) (by decide)
 obtain ⟨H2, ok2, st2⟩ := cV H1 ok1 st1 (by omega) (ca h + 4) b1.1 b1.2
 have t0 := (Bx.tick_ok ok st (N := p.gp) (Pt.gp_bounds H.gs).1 (by have := (Pt.gp_bounds H.gs).2; omega)).2
 have t1 := (Bx.tick_ok ok1 st1 (N := (p.stp n c (ca h) 4294967295).gp) (Pt.gp_bounds H1.gs).1 (by have := (Pt.gp_bounds H1.gs).2; omega)).2
 have t2 := (Bx.tick_ok ok2 st2 (N := ((p.stp n c (ca h) 4294967295).stp n c (ca h + 4) (hi d)).gp) (Pt.gp_bounds H2.gs).1 (by have := (Pt.gp_bounds H2.gs).2; omega)).2
 obtain ⟨e1, c1, D1, m1⟩ := tO cm ok st H hn (.inl rfl) _ (aD1 t0 hn h8 (v := 4294967295))
 obtain ⟨e2, c2, D2, m2⟩ := tO c1 ok1 st1 H1 hn (.inr rfl) _ (aHh t1 hn h8 (v := hi d))
 obtain ⟨e3, c3, D3, m3⟩ := tO c2 ok2 st2 H2 hn (.inl rfl) _ (aD1 t2 hn h8 (v := lo d))
 have d2 : (p.stp n c (ca h) 4294967295).pass.x.D h = cZ (hi (p.pass.x.D h)) 4294967295 := by rw [aG4 c1, D1, aAb]
 have d3 : ((p.stp n c (ca h) 4294967295).stp n c (ca h + 4) (hi d)).pass.x.D h = cZ (hi d) 4294967295 := by rw [aG4 c2, D2, aAb, d2, aAF (by decide) (by decide)]
 unfold Pt.arm
 rw [if_pos e1, if_pos e2]
 refine ⟨e3, c3, ?_, fun i hi => ?_, ?_⟩
 . show (Pt.stp n c _ (ca h) (lo d)).x.D h = d
   rw [D3, aAb, d3, zP (by decide) (by decide)]
   unfold cZ hi lo
   omega
 . show (Pt.stp n c _ (ca h) (lo d)).x.D i = p.x.D i
   rw [D3, aAd _ _ hi, D2, aAd _ _ hi, D1, aAd _ _ hi]
 . show (Pt.stp n c _ (ca h) (lo d)).md = _
   rw [m3, m2, m1]
end
section
variable {P : Program} {ops : Array Oper} {Q : Exit -> Act -> World -> Prop} {md : Region.Mode} {S : World -> Prop}
theorem qM {i : Nat} {oi : Oper} {v : Value} {fuel : Nat} {listed : Array Bool} {a : Act} {w : World} (hi : ops[i]? = some oi)
 (hb : (Region.noSelect ops && Region.free md ops listed i && (Region.ready md ops listed).contains i && Region.wanted oi (yielded ops a.tmps)) = true)
 (hQ : ∀ c a w, Q (.panic c) (a.put oi.dst v) w -> Q (.panic c) a w) (hy : ∀ w, S w -> (execOp a.eval oi).run P w = .ok (.value v) w) (hS : S w)
 (h : wpAnyH P md ops Q S fuel (listed.setIfInBounds i true) (a.put oi.dst v) w) : wpAnyH P md ops Q S (fuel + 1) listed a w := by
 simp only [Bool.and_eq_true] at hb
 exact wpAnyH_take hi hb.1.1.1 hb.1.1.2 hb.1.2 hQ (.inl ⟨hb.2, hy⟩) hS h
theorem cW {i : Nat} {oi : Oper} {v : Value} {fuel : Nat} {listed : Array Bool} {a : Act} {w : World} (hS : S w) (h : wpAnyH P md ops Q S fuel (listed.setIfInBounds i true) (a.put oi.dst v) w) (hi : ops[i]? = some oi := by exact rfl)
 (hb : (Region.noSelect ops && Region.free md ops listed i && (Region.ready md ops listed).contains i && Region.wanted oi (yielded ops a.tmps)) = true := by kernel_rfl)
 (hQ : ∀ c a w, Q (.panic c) (a.put oi.dst v) w -> Q (.panic c) a w := by exact fun _ _ _ h => h) (hy : ∀ w, S w -> (execOp a.eval oi).run P w = .ok (.value v) w := by intro w' hSw; clear hSw; go_simp) :
 wpAnyH P md ops Q S (fuel + 1) listed a w := qM hi hb hQ hy hS h
theorem lU {fuel : Nat} {listed : Array Bool} {a : Act} {w : World} {i : Nat} {o : Oper} (hr : Region.ready md ops listed = [i]) (ho : ops[i]? = some o)
 (h : ∀ K' : Act -> World -> Prop, Shut (∀ a w, S w -> (S w -> wpAnyH P md ops Q S fuel (listed.setIfInBounds i true) a w) -> K' a w) -> if Region.wanted o (yielded ops a.tmps) = true then Oper.wp P o a w K' Q else K' (a.put o.dst undef) w) :
 wpAnyH P md ops Q S (fuel + 1) listed a w := wpAnyH_ready hr (by simp) (AllReadyH.cons ho h AllReadyH.nil)
end
theorem dN {α : Type} {xs : List α} {i : Nat} (h : i < xs.toArray.size) : xs.toArray[i]'h = xs[i]'(by simpa using h) := List.getElem_toArray h
theorem dP {α : Type} {a : α} {bs : List α} (h : 0 < (a :: bs).length) : (a :: bs)[0]'h = a := List.getElem_cons_zero _ _ h
theorem dO {α : Type} {a : α} {bs : List α} {i : Nat} (h : i + 1 < (a :: bs).length) : (a :: bs)[i + 1]'h = bs[i]'(by simpa using h) := List.getElem_cons_succ _ _ _ h
theorem bN {α : Type} {l : List α} {i : Nat} {x : α} : l.toArray.setIfInBounds i x = (l.set i x).toArray := List.setIfInBounds_toArray _ _ _
theorem bP {α : Type} {x y : α} {l : List α} : (x :: l).set 0 y = y :: l := List.set_cons_zero
theorem bO {α : Type} {x y : α} {l : List α} {n : Nat} : (x :: l).set (n + 1) y = x :: l.set n y := List.set_cons_succ
section
variable {n c : Nat} {x : Bx} {N : Int}
theorem aEa (h : x.still) (hf : (x.later N).wd.fa = 0) : (x.later N).due = 0 := by
 unfold Bx.due; rw [if_neg (by show ¬ x.rs.qs = true; rw [h.2]; decide)]; exact hf
theorem uH (h : x.still) (hf : (x.later N).wd.fa ≠ 0) : (x.later N).due = 2 := by
 unfold Bx.due; rw [if_neg (by show ¬ x.rs.qs = true; rw [h.2]; decide)]; exact kJ h.1 hf
theorem aBj (h : x.still) (hf : (x.later N).wd.fa ≠ 0) : x.tick N = ((x.later N).rst 2).later (N - x.wd.ran N) := by
 rw [Bx.tick_yes hf, show (x.later N).wd.fa = 2 from kJ h.1 hf, Bx.rst_later]
theorem aEy (ok : x.ok n c) (h : x.still) (hf : (x.later N).wd.fa ≠ 0) (n0 : 0 <= N) (n1 : N < 18446744073709551616) (he : x.wd.ran N = N) : x.tick N = (x.later N).rst 2 := by
 have hl := Bx.later_ok ok h.1 n0 n1
 rw [aBj h hf, he, Int.sub_self, Bx.rst_later, xQ hl.t0 hl.t1, Rk.tick_zero (Rk.zero_ok hl.rk)]
 rfl
theorem aJF (x : Bx) (k : Int) : ((x.rst 2).later k).due = 0 := by
 unfold Bx.due; rw [if_neg (by show ¬ (x.rs.ltc 2).qs = true; rw [aCk zT]; decide)]; rfl
end
theorem nK {P : Prop} (h : P := by
 clear HR HO R1 O1 c0 c1 c2 c3 c4 c5
 go_wp2_with fail
 rw [Exit.noGoto_normal]
 go_end0
 exact ⟨rfl, HL.out⟩
 ) : P := h
theorem aCJ (B : Bp) (x : Bx) (N : Int) (w : World) (H : aZ w B x) (n0 : 0 <= N) (n1 : N < 18446744073709551616) (hN : N = 0) :
 Calls prog 41 #[.pointer (some ⟨B.b, 0, none⟩), .int .u64 N] w fun e w' => e = .returned (.tuple #[]) /\ kV B (x.tick N) w w' := by
 have HST := Hd (Bx.tick_ok H.ok H.still n0 n1)
 have hX := H.raw.cells
 have c0 := aA hX 0
 have c1 := aA hX 1
 have c2 := aA hX 2
 have c3 := aA hX 3
 have c4 := aA hX 4
 have c5 := aA hX 5
 simp only [y0q, y1q, y2q] at c0 c1 c2 c3 c4 c5
 subst hN
 have HLK := Hd (Bx.tick_zero H.ok H.still)
 have HOK := Hd H.ok
 have HFA := Hd H.still.1
 have HR := Hd H.raw
 have HO := Hd (aF.refl B.own w)
 clear hX H
 go_enter func41, ntmps41
 go_wp2_with fail
 go_step3
 go_wp2_with fail
 go_step3
 go_wp2_with fail
 refine wp_loop_rounds 1 ?_
 rw [rounds_succ]
 go_wp2_with fail
 refine (zD B _ _ _ HR.out.dv HOK.out).mono ?_
 rintro e w1 ⟨rfl, dA, hoA⟩
 have R1 := HR.out.turn dA hoA rfl
 have O1 := HO.out.trans (iN (B := B) hoA)
 clear dA hoA
 have HL := Hd (show kV B (x.tick 0) w w1 from ⟨B.ev, (R1.done HOK.out (HLK.out.symm.still HST.out.2)).like HLK.out, O1, fun k hk => .inl hk⟩)
 exact nK
theorem aCH (B : Bp) (x : Bx) (N : Int) (w : World) (H : aZ w B x) (n0 : 0 <= N) (n1 : N < 18446744073709551616) (hN : 0 < N) (hf : (x.later N).wd.fa = 0) :
 Calls prog 41 #[.pointer (some ⟨B.b, 0, none⟩), .int .u64 N] w fun e w' => e = .returned (.tuple #[]) /\ kV B (x.tick N) w w' := by
 have HST := Hd (Bx.tick_ok H.ok H.still n0 n1)
 have hX := H.raw.cells
 have c0 := aA hX 0
 have c1 := aA hX 1
 have c2 := aA hX 2
 have c3 := aA hX 3
 have c4 := aA hX 4
 have c5 := aA hX 5
 simp only [y0q, y1q, y2q] at c0 c1 c2 c3 c4 c5
 have HRN := Hd (show x.wd.ran N = N from aI6 H.still.1 hf)
 have HDU := Hd (aEa H.still hf)
 have HOK1 := Hd (Bx.later_ok H.ok H.still.1 n0 n1)
 have HTE := Hd (Bx.tick_no hf)
 clear hf
 have HOK := Hd H.ok
 have HFA := Hd H.still.1
 have HR := Hd H.raw
 have HO := Hd (aF.refl B.own w)
 clear hX H
 go_enter func41, ntmps41
 go_wp2_with fail
 go_step3
 go_wp2_with fail
 go_step3
 go_wp2_with fail
 refine wp_loop_rounds 2 ?_
 rw [rounds_succ]
 go_wp2_with fail
 refine (aAg B _ _ (N) _ HR.out.dv HOK.out HFA.out n0 n1).mono ?_
 rw [HRN.out]
 rintro e w1 ⟨rfl, dA, hoA⟩
 have R1 := HR.out.turn dA hoA rfl
 have O1 := HO.out.trans (iN (B := B) hoA)
 clear dA hoA HR HO
 have hX1 := R1.cells
 clear c0 c1 c2 c3 c4 c5
 have c0 := aA hX1 0
 have c1 := aA hX1 1
 have c2 := aA hX1 2
 have c3 := aA hX1 3
 have c4 := aA hX1 4
 have c5 := aA hX1 5
 simp only [y0q, y1q, y2q] at c0 c1 c2 c3 c4 c5
 have HR := Hd R1
 have HO := Hd O1
 clear R1 hX1 O1
 go_wp2_with fail
 refine (aE4 B _ _ _ HR.out.dv HOK1.out).mono ?_
 rw [HDU.out]
 rintro e w2 ⟨rfl, hbA⟩
 have R1 := HR.out.below hbA
 have O1 := HO.out.trans (aF.ofBelow (S := B.own) hbA)
 clear hbA HR HO
 have hX1 := R1.cells
 clear c0 c1 c2 c3 c4 c5
 have c0 := aA hX1 0
 have c1 := aA hX1 1
 have c2 := aA hX1 2
 have c3 := aA hX1 3
 have c4 := aA hX1 4
 have c5 := aA hX1 5
 simp only [y0q, y1q, y2q] at c0 c1 c2 c3 c4 c5
 have HR := Hd R1
 have HO := Hd O1
 clear R1 hX1 O1
 go_wp2_with fail
 rw [rounds_succ]
 go_wp2_with fail
 refine (zD B _ _ _ HR.out.dv HOK1.out).mono ?_
 rintro e w3 ⟨rfl, dA, hoA⟩
 have R1 := HR.out.turn dA hoA rfl
 have O1 := HO.out.trans (iN (B := B) hoA)
 clear dA hoA
 have HL := Hd (show kV B (x.tick N) w w3 from aAD (y := x.tick N) (HTE.out ▸ R1) HST.out.1 HST.out.2 O1)
 exact nK
theorem aCI (B : Bp) (x : Bx) (N : Int) (w : World) (H : aZ w B x) (n0 : 0 <= N) (n1 : N < 18446744073709551616) (hN : 0 < N) (hf : (x.later N).wd.fa ≠ 0) (he : x.wd.ran N = N) (hl : x.es.length < 4294967296) :
 Calls prog 41 #[.pointer (some ⟨B.b, 0, none⟩), .int .u64 N] w fun e w' => e = .returned (.tuple #[]) /\ kV B (x.tick N) w w' := by
 have HST := Hd (Bx.tick_ok H.ok H.still n0 n1)
 have hX := H.raw.cells
 have c0 := aA hX 0
 have c1 := aA hX 1
 have c2 := aA hX 2
 have c3 := aA hX 3
 have c4 := aA hX 4
 have c5 := aA hX 5
 simp only [y0q, y1q, y2q] at c0 c1 c2 c3 c4 c5
 have HDU := Hd (uH H.still hf)
 have HOK1 := Hd (Bx.later_ok H.ok H.still.1 n0 n1)
 have HLE := Hd (show (x.later N).es.length < 4294967296 from hl)
 have HOK2 := Hd (Bx.rst_ok (Bx.later_ok H.ok H.still.1 n0 n1) 2)
 have HRN := Hd he
 have HTE := Hd (aEy H.ok H.still hf n0 n1 he)
 clear hf he hl
 have HOK := Hd H.ok
 have HFA := Hd H.still.1
 have HR := Hd H.raw
 have HO := Hd (aF.refl B.own w)
 clear hX H
 go_enter func41, ntmps41
 go_wp2_with fail
 go_step3
 go_wp2_with fail
 go_step3
 go_wp2_with fail
 refine wp_loop_rounds 2 ?_
 rw [rounds_succ]
 go_wp2_with fail
 refine (aAg B _ _ (N) _ HR.out.dv HOK.out HFA.out n0 n1).mono ?_
 rw [HRN.out]
 rintro e w1 ⟨rfl, dA, hoA⟩
 have R1 := HR.out.turn dA hoA rfl
 have O1 := HO.out.trans (iN (B := B) hoA)
 clear dA hoA HR HO
 have hX1 := R1.cells
 clear c0 c1 c2 c3 c4 c5
 have c0 := aA hX1 0
 have c1 := aA hX1 1
 have c2 := aA hX1 2
 have c3 := aA hX1 3
 have c4 := aA hX1 4
 have c5 := aA hX1 5
 simp only [y0q, y1q, y2q] at c0 c1 c2 c3 c4 c5
 have HR := Hd R1
 have HO := Hd O1
 clear R1 hX1 O1
 go_wp2_with fail
 refine (aE4 B _ _ _ HR.out.dv HOK1.out).mono ?_
 rw [HDU.out]
 rintro e w2 ⟨rfl, hbA⟩
 have R1 := HR.out.below hbA
 have O1 := HO.out.trans (aF.ofBelow (S := B.own) hbA)
 clear hbA HR HO
 have hX1 := R1.cells
 clear c0 c1 c2 c3 c4 c5
 have c0 := aA hX1 0
 have c1 := aA hX1 1
 have c2 := aA hX1 2
 have c3 := aA hX1 3
 have c4 := aA hX1 4
 have c5 := aA hX1 5
 simp only [y0q, y1q, y2q] at c0 c1 c2 c3 c4 c5
 have HR := Hd R1
 have HO := Hd O1
 clear R1 hX1 O1
 go_wp2_with fail
 refine (zI B _ _ 2 _ HR.out HOK1.out HLE.out).mono ?_
 rintro e w3 ⟨rfl, ev', R1, hoA, heA⟩
 have O1 := HO.out.trans hoA
 have HEV := Hd (show ∀ k, ev'.ownBlock = some k -> B.ev.ownBlock = some k \/ w.heap.size <= k from fun k hk => (heA k hk).imp id fun h => Nat.le_trans HO.out.size h)
 clear hoA heA HR HO
 have hX1 := R1.cells
 clear c0 c1 c2 c3 c4 c5
 have c0 := aA hX1 0
 have c1 := aA hX1 1
 have c2 := aA hX1 2
 have c3 := aA hX1 3
 have c4 := aA hX1 4
 have c5 := aA hX1 5
 simp only [y0q, y1q, y2q] at c0 c1 c2 c3 c4 c5
 have HR := Hd R1
 have HO := Hd O1
 clear R1 hX1 O1
 go_wp2_with fail
 rw [rounds_succ]
 go_wp2_with fail
 refine (zD { B with ev := ev' } _ _ _ HR.out.dv HOK2.out).mono ?_
 rintro e w4 ⟨rfl, dA, hoA⟩
 have R1 := HR.out.turn dA hoA rfl
 have O1 := HO.out.trans (iN (B := B) hoA)
 clear dA hoA
 have HL := Hd (show kV B (x.tick N) w w4 from aAC (y := x.tick N) (HTE.out ▸ R1) HST.out.1 HST.out.2 O1 HEV.out)
 exact nK
theorem aAt (B : Bp) (x : Bx) (N : Int) (w : World) (H : aZ w B x) (n0 : 0 <= N) (n1 : N < 18446744073709551616) (hN : 0 < N) (hf : (x.later N).wd.fa ≠ 0) (k : Int) (hr : x.wd.ran N = k) (k0 : 0 <= k) (k1 : k < N) (hl : x.es.length < 4294967296) :
 Calls prog 41 #[.pointer (some ⟨B.b, 0, none⟩), .int .u64 N] w fun e w' => e = .returned (.tuple #[]) /\ kV B (x.tick N) w w' := by
 have HST := Hd (Bx.tick_ok H.ok H.still n0 n1)
 have hX := H.raw.cells
 have c0 := aA hX 0
 have c1 := aA hX 1
 have c2 := aA hX 2
 have c3 := aA hX 3
 have c4 := aA hX 4
 have c5 := aA hX 5
 simp only [y0q, y1q, y2q] at c0 c1 c2 c3 c4 c5
 have HDU := Hd (uH H.still hf)
 have HOK1 := Hd (Bx.later_ok H.ok H.still.1 n0 n1)
 have HLE := Hd (show (x.later N).es.length < 4294967296 from hl)
 have HOK2 := Hd (Bx.rst_ok (Bx.later_ok H.ok H.still.1 n0 n1) 2)
 have HRN := Hd hr
 have HTE := Hd (show x.tick N = ((x.later N).rst 2).later (N - k) by rw [aBj H.still hf, hr])
 have HOK3 := Hd (show (((x.later N).rst 2).later (N - k)).ok B.n B.c from Bx.later_ok (Bx.rst_ok (Bx.later_ok H.ok H.still.1 n0 n1) 2) rfl (by omega) (by omega))
 have HRZ := Hd (aHw (N - k))
 obtain ⟨m, hm⟩ : ∃ m, N - k = m := ⟨_, rfl⟩
 have m0 : 0 < m := by omega
 have m1 : m < 18446744073709551616 := by omega
 have m2 : 0 <= m := by omega
 rw [hm] at HTE HOK3 HRZ
 clear hf hr hl
 have HOK := Hd H.ok
 have HFA := Hd H.still.1
 have HR := Hd H.raw
 have HO := Hd (aF.refl B.own w)
 clear hX H
 go_enter func41, ntmps41
 go_wp2_with fail
 go_step3
 go_wp2_with fail
 go_step3
 go_wp2_with fail
 refine wp_loop_rounds 3 ?_
 rw [rounds_succ]
 go_wp2_with fail
 refine (aAg B _ _ (N) _ HR.out.dv HOK.out HFA.out n0 n1).mono ?_
 rw [HRN.out]
 rintro e w1 ⟨rfl, dA, hoA⟩
 have R1 := HR.out.turn dA hoA rfl
 have O1 := HO.out.trans (iN (B := B) hoA)
 clear dA hoA HR HO
 have hX1 := R1.cells
 clear c0 c1 c2 c3 c4 c5
 have c0 := aA hX1 0
 have c1 := aA hX1 1
 have c2 := aA hX1 2
 have c3 := aA hX1 3
 have c4 := aA hX1 4
 have c5 := aA hX1 5
 simp only [y0q, y1q, y2q] at c0 c1 c2 c3 c4 c5
 have HR := Hd R1
 have HO := Hd O1
 clear R1 hX1 O1
 go_wp2_with fail
 refine (aE4 B _ _ _ HR.out.dv HOK1.out).mono ?_
 rw [HDU.out]
 rintro e w2 ⟨rfl, hbA⟩
 have R1 := HR.out.below hbA
 have O1 := HO.out.trans (aF.ofBelow (S := B.own) hbA)
 clear hbA HR HO
 have hX1 := R1.cells
 clear c0 c1 c2 c3 c4 c5
 have c0 := aA hX1 0
 have c1 := aA hX1 1
 have c2 := aA hX1 2
 have c3 := aA hX1 3
 have c4 := aA hX1 4
 have c5 := aA hX1 5
 simp only [y0q, y1q, y2q] at c0 c1 c2 c3 c4 c5
 have HR := Hd R1
 have HO := Hd O1
 clear R1 hX1 O1
 go_wp2_with fail
 refine (zI B _ _ 2 _ HR.out HOK1.out HLE.out).mono ?_
 rintro e w3 ⟨rfl, ev', R1, hoA, heA⟩
 have O1 := HO.out.trans hoA
 have HEV := Hd (show ∀ k, ev'.ownBlock = some k -> B.ev.ownBlock = some k \/ w.heap.size <= k from fun k hk => (heA k hk).imp id fun h => Nat.le_trans HO.out.size h)
 clear hoA heA HR HO
 have hX1 := R1.cells
 clear c0 c1 c2 c3 c4 c5
 have c0 := aA hX1 0
 have c1 := aA hX1 1
 have c2 := aA hX1 2
 have c3 := aA hX1 3
 have c4 := aA hX1 4
 have c5 := aA hX1 5
 simp only [y0q, y1q, y2q] at c0 c1 c2 c3 c4 c5
 have HR := Hd R1
 have HO := Hd O1
 clear R1 hX1 O1
 go_wp2_with fail
 rw [rounds_succ]
 go_wp2_with fail
 refine (aAg { B with ev := ev' } _ _ (m) _ HR.out.dv HOK2.out rfl m2 m1).mono ?_
 rw [show ((x.later N).rst 2).wd.ran m = m from HRZ.out]
 rintro e w4 ⟨rfl, dA, hoA⟩
 have R1 := HR.out.turn dA hoA rfl
 have O1 := HO.out.trans (iN (B := B) hoA)
 clear dA hoA HR HO
 have hX1 := R1.cells
 clear c0 c1 c2 c3 c4 c5
 have c0 := aA hX1 0
 have c1 := aA hX1 1
 have c2 := aA hX1 2
 have c3 := aA hX1 3
 have c4 := aA hX1 4
 have c5 := aA hX1 5
 simp only [y0q, y1q, y2q] at c0 c1 c2 c3 c4 c5
 have HR := Hd R1
 have HO := Hd O1
 clear R1 hX1 O1
 go_wp2_with fail
 refine (aE4 { B with ev := ev' } _ _ _ HR.out.dv HOK3.out).mono ?_
 rw [aJF]
 rintro e w5 ⟨rfl, hbA⟩
 have R1 := HR.out.below hbA
 have O1 := HO.out.trans (aF.ofBelow (S := B.own) hbA)
 clear hbA HR HO
 have hX1 := R1.cells
 clear c0 c1 c2 c3 c4 c5
 have c0 := aA hX1 0
 have c1 := aA hX1 1
 have c2 := aA hX1 2
 have c3 := aA hX1 3
 have c4 := aA hX1 4
 have c5 := aA hX1 5
 simp only [y0q, y1q, y2q] at c0 c1 c2 c3 c4 c5
 have HR := Hd R1
 have HO := Hd O1
 clear R1 hX1 O1
 go_wp2_with fail
 rw [rounds_succ]
 go_wp2_with fail
 refine (zD { B with ev := ev' } _ _ _ HR.out.dv HOK3.out).mono ?_
 rintro e w6 ⟨rfl, dA, hoA⟩
 have R1 := HR.out.turn dA hoA rfl
 have O1 := HO.out.trans (iN (B := B) hoA)
 clear dA hoA
 have HL := Hd (show kV B (x.tick N) w w6 from aAC (y := x.tick N) (HTE.out ▸ R1) HST.out.1 HST.out.2 O1 HEV.out)
 exact nK
theorem aFO (B : Bp) (x : Bx) (N : Int) (w : World) (H : aZ w B x) (n0 : 0 <= N) (n1 : N < 18446744073709551616) (hl : x.es.length < 4294967296) :
 Calls prog 41 #[.pointer (some ⟨B.b, 0, none⟩), .int .u64 N] w fun e w' => e = .returned (.tuple #[]) /\ kV B (x.tick N) w w' := by
 by_cases hN : N = 0
 . exact aCJ B x N w H n0 n1 hN
 . by_cases hf : (x.later N).wd.fa = 0
   . exact aCH B x N w H n0 n1 (by omega) hf
   . have hb := gP H.ok.wd H.still.1 n0
     by_cases he : x.wd.ran N = N
     . exact aCI B x N w H n0 n1 (by omega) hf he hl
     . exact aAt B x N w H n0 n1 (by omega) hf _ rfl hb.1 (by omega) hl
def Bp.fresh (s : Nat) (B : Bp) : Prop := (∀ k, B.dvs k -> s <= k) /\ s <= B.mc
def qQ (div : Int) : Bx := ⟨0, nvD, jB, fun _ => tz, wz, rsN, rk0 div, 0, []⟩
theorem aLD {n c : Nat} {d : Int} (n0 : 1 <= n) (n8 : n <= 8) (c0 : 1 <= c) (c8 : c <= 8) (d0 : 1 <= d) (d1 : d < 4294967296) : (qQ d).ok n c :=
 ⟨n0, n8, c0, c8, Int.le_refl _, (by show (0 : Int) < 18446744073709551616; decide), aCq, aAL, fun _ _ => aD5, aKv, aMv, aMq d0 d1, Int.le_refl _, (by show (0 : Int) < 4294967296; decide)⟩
theorem aEK (d : Int) : (qQ d).still := ⟨rfl, rfl⟩
theorem aDr (f : Nat -> Bool) (h : ∀ i, f i = false) : ∀ k, ob f k = 0
 | 0 => rfl
 | k + 1 => by rw [yM f k (h k), aDr f h k]
theorem aEL (n c : Nat) (d : Int) : wires n c (qQ d) = 0 := by
 refine aDr _ (fun i => ?_) 32
 unfold fH
 split
 . show (decide (i < n) && decide ((18446744073709551615 : Int) <= 0)) = false; simp
 . split
   . show (decide (i - 8 < c) && (false && false)) = false; simp
   . split
     . rfl
     . split
       . rfl
       . show (decide (i - 24 < n) && ((0 : Int) == 1)) = false; simp
def jI (B : Bp) : Array Value := #[.int .u32 33554432, .int .u32 49152, .iface 110 (.pointer (some ⟨B.pc, 0, none⟩)), .int .u32 268500992, .int .u32 256, .iface 111 (.pointer (some ⟨B.pb, 0, none⟩)), .int .u32 268566528, .int .u32 20, .iface 112 (.pointer (some ⟨B.pd, 0, none⟩)), .int .u32 268632064, .int .u32 16, .iface 113 (.pointer (some ⟨B.ps, 0, none⟩)), .int .u32 268697600, .int .u32 36, .iface 114 (.pointer (some ⟨B.pr, 0, none⟩)), .int .u32 268763136, .int .u32 12, .iface 115 (.pointer (some ⟨B.pl, 0, none⟩))]
theorem aNO (B : Bp) (w : World) :
 Calls prog 104 #[.agg #[.pointer (some ⟨B.pc, 0, none⟩), .pointer (some ⟨B.pb, 0, none⟩), .pointer (some ⟨B.pd, 0, none⟩), .pointer (some ⟨B.ps, 0, none⟩), .pointer (some ⟨B.pr, 0, none⟩), .pointer (some ⟨B.pl, 0, none⟩)]] w fun e w' => ∃ g, e = .returned (.slice (some ⟨g, 0, none⟩) 6 6) /\ w'.heap[g]? = some (.cells (jI B) 184 (0, 0)) /\ Below w.heap.size w w' /\ w.heap.size <= g := by
 have hX := aD w (.cells #[.pointer (some ⟨B.pc, 0, none⟩), .pointer (some ⟨B.pb, 0, none⟩), .pointer (some ⟨B.pd, 0, none⟩), .pointer (some ⟨B.ps, 0, none⟩), .pointer (some ⟨B.pr, 0, none⟩), .pointer (some ⟨B.pl, 0, none⟩)] 117)
 have c0 := aA hX 0
 have c1 := aA hX 1
 have c2 := aA hX 2
 have c3 := aA hX 3
 have c4 := aA hX 4
 have c5 := aA hX 5
 simp only [y0q, y1q, y2q] at c0 c1 c2 c3 c4 c5
 have hb := aE (aH w) (.cells #[.pointer (some ⟨B.pc, 0, none⟩), .pointer (some ⟨B.pb, 0, none⟩), .pointer (some ⟨B.pd, 0, none⟩), .pointer (some ⟨B.ps, 0, none⟩), .pointer (some ⟨B.pr, 0, none⟩), .pointer (some ⟨B.pl, 0, none⟩)] 117)
 have hs : w.heap.size <= (w.alloc (.cells #[.pointer (some ⟨B.pc, 0, none⟩), .pointer (some ⟨B.pb, 0, none⟩), .pointer (some ⟨B.pd, 0, none⟩), .pointer (some ⟨B.ps, 0, none⟩), .pointer (some ⟨B.pr, 0, none⟩), .pointer (some ⟨B.pl, 0, none⟩)] 117)).heap.size := by simp
 clear hX
 go_enter func104, ntmps104
 go_wp2_with fail
 go_ret
 exact ⟨_, rfl, bU _ _ _, aE hb _, Nat.le_succ _⟩
theorem iDv : (prog.info? 117).map (·.size) = some 6 := by kernel_rfl
section
variable {ops : Array Oper} {rest : List Oper} {o : Oper} {a : Act} {w : World} {Q : Exit -> Act -> World -> Prop}
theorem aJP (hgd : o.guard = none) (x y : Operand) (ho : o.op = .store 117 x y) {b : Nat} (hx : a.eval x = .pointer (some ⟨b, 0, none⟩)) (vs us : List Value) (hl : vs.length = 6) (hu : us.length = 6) (h1 : ∀ v ∈ vs, v.oneCell' = true) (hy : a.eval y = .agg vs.toArray) (hg : w.heap[b]? = some (.cells us.toArray tDv (0, 0)))
 (h : wpList prog ops Q rest (a.put o.dst undef) (w.setRow b vs.toArray)) : wpList prog ops Q (o :: rest) a w := by
 refine aJ hgd _ x y ho b 0 hx vs hy hg (by rw [hl]; exact iDv) (by simp [hl, hu]) h1 ?_
 rw [aW _ _ (by simp [hl, hu])]
 exact h
theorem aOr {fn : Func} {p : Tmp} (h : fn.results = #[.cell p 117]) (tmps : Array Value) (w : World) {b : Nat} (vs : List Value) (hl : vs.length = 6) (hp : tmps[p]? = some (.pointer (some ⟨b, 0, none⟩))) (hg : w.heap[b]? = some (.cells vs.toArray tDv (0, 0))) :
 (results fn tmps).run prog w = .ok (.agg vs.toArray) w :=
 aS h tmps w b 0 _ vs hp hg underlying117 rfl (by rw [hl]; exact iDv) (aL _)
theorem aMn {fn : Func} {p q : Tmp} (h : fn.results = #[.cell p 117, .tmp q]) (tmps : Array Value) (w : World) {b : Nat} (vs : List Value) (y : Value) (hl : vs.length = 6) (hp : tmps[p]? = some (.pointer (some ⟨b, 0, none⟩))) (hq : tmps[q]? = some y) (hg : w.heap[b]? = some (.cells vs.toArray tDv (0, 0))) :
 (results fn tmps).run prog w = .ok (.tuple #[.agg vs.toArray, y]) w :=
 bE h tmps w b 0 _ vs y hp hq hg underlying117 rfl (by rw [hl]; exact iDv) (aL _)
end
theorem aBQ (a b c d e f : Nat) : ∀ v ∈ [Value.pointer (some ⟨a, 0, none⟩), .pointer (some ⟨b, 0, none⟩), .pointer (some ⟨c, 0, none⟩), .pointer (some ⟨d, 0, none⟩), .pointer (some ⟨e, 0, none⟩), .pointer (some ⟨f, 0, none⟩)], v.oneCell' = true := by
 intro v hv
 simp only [List.mem_cons, List.not_mem_nil, or_false] at hv
 rcases hv with rfl | rfl | rfl | rfl | rfl | rfl <;> rfl
def z6 : List Value := [.pointer none, .pointer none, .pointer none, .pointer none, .pointer none, .pointer none]
theorem aGv (w : World) (p : Nat) (cs : Array Value) : aF (· = p) w (w.setRow p cs) := ⟨rfl, rfl, rfl, by simp, fun k _ hs => setRow_other w p k cs hs⟩
def nB (pc mc pb gb : Nat) (qb : Nat -> Nat) (pd ps pr pl n c : Nat) (d : Int) : Bp := ⟨0, pc, mc, pb, gb, qb, pd, ps, pr, pl, 0, 0, .slice none 0 0, [], [], fun _ => .slice none 0 0, n, c, d, .slice none 0 0⟩
def aFC (n c : Nat) (d : Int) (w : World) (e : Ending) (w' : World) : Prop := ∃ B : Bp, e = .returned (.tuple #[.agg #[.pointer (some ⟨B.pc, 0, none⟩), .pointer (some ⟨B.pb, 0, none⟩), .pointer (some ⟨B.pd, 0, none⟩), .pointer (some ⟨B.ps, 0, none⟩), .pointer (some ⟨B.pr, 0, none⟩), .pointer (some ⟨B.pl, 0, none⟩)], .int .i64 0]) /\ bB w' B (qQ d) 0 /\ Below w.heap.size w w' /\ B.fresh w.heap.size /\ B.n = n /\ B.c = c /\ B.div = d
theorem aPF (n c : Nat) (d : Int) (w : World) (n0 : 1 <= n) (n8 : n <= 8) (c0 : 1 <= c) (c8 : c <= 8) (d0 : 1 <= d) (d1 : d < 4294967296) :
 Calls prog 57 #[.agg #[.int .i64 n, .int .i64 c, .int .u32 d]] w (aFC n c d w) := by
 have hC := bM w (.cells #[.int .i64 n, .int .i64 c, .int .u32 d] 75) (.cells #[.pointer none, .pointer none, .pointer none, .pointer none, .pointer none, .pointer none] 117)
 have hZ := bU w (.cells #[.int .i64 n, .int .i64 c, .int .u32 d] 75) (.cells #[.pointer none, .pointer none, .pointer none, .pointer none, .pointer none, .pointer none] 117)
 have hb := aE (aE (aH w) (.cells #[.int .i64 n, .int .i64 c, .int .u32 d] 75)) (.cells #[.pointer none, .pointer none, .pointer none, .pointer none, .pointer none, .pointer none] 117)
 have hl0 := lt_of_block hC
 have hl1 := lt_of_block hZ
 have k0 := aA hC 0
 have k1 := aA hC 1
 have k2 := aA hC 2
 simp only [y0q, y1q, y2q] at k0 k1 k2
 go_enter func57, ntmps57
 go_upto_region 1 with (fail)
 generalize ((w.alloc (.cells #[.int .i64 n, .int .i64 c, .int .u32 d] 75)).alloc (.cells #[.pointer none, .pointer none, .pointer none, .pointer none, .pointer none, .pointer none] 117)) = W at *
 have HC := Hd hC
 have HZ := Hd hZ
 have HB := Hd hb
 clear hC hZ hb
 go_wp2_with fail
 refine (aPa n W n0 n8).mono ?_
 rintro e w1 ⟨pc, hp1, rfl, A1, b1⟩
 have hC1 := aC b1 HC.out hl0
 have HZ1 := Hd (aC b1 HZ.out hl1)
 have HB1 := Hd (tr HB.out b1)
 have hl1' := lt_of_block HZ1.out
 have hl0' := lt_of_block hC1
 have F1 := Hd (show w.heap.size <= pc /\ w.heap.size <= W.heap.size from ⟨Nat.le_trans HB.out.size hp1, HB.out.size⟩)
 have A1 := Hd A1
 clear hp1 b1 k0 k1 k2 hl0 hl1 HB HZ HC
 have k0 := aA hC1 0
 have k1 := aA hC1 1
 have k2 := aA hC1 2
 simp only [y0q, y1q, y2q] at k0 k1 k2
 have HC1 := Hd hC1
 clear hC1
 go_wp2_with fail
 refine (aPZ c c0 c8 w1).mono ?_
 rintro e w2 ⟨pb, gb, qb, rfl, A2, b2, hp2, hg2, hq2⟩
 have hC2 := aC b2 HC1.out hl0'
 have HZ2 := Hd (aC b2 HZ1.out hl1')
 have A1 := Hd (A1.out.below b2)
 have F2 := Hd (show w.heap.size <= pb /\ w.heap.size <= gb /\ ∀ i, i < c -> w.heap.size <= qb i from ⟨Nat.le_trans HB1.out.size hp2, Nat.le_trans HB1.out.size hg2, fun i hi => Nat.le_trans HB1.out.size (hq2 i hi)⟩)
 have HB2 := Hd (tr HB1.out b2)
 have hl1 := lt_of_block HZ2.out
 have hl0 := lt_of_block hC2
 have A2 := Hd A2
 clear hp2 hg2 hq2 b2 k0 k1 k2 hl0' hl1' HB1 HZ1 HC1
 have k0 := aA hC2 0
 have k1 := aA hC2 1
 have k2 := aA hC2 2
 simp only [y0q, y1q, y2q] at k0 k1 k2
 have HC2 := Hd hC2
 clear hC2
 go_wp2_with fail
 refine (aPf d w2 d0 d1).mono ?_
 rintro e w3 ⟨rfl, hw3⟩
 have b3 := aE (aH w2) (oE dK (rk0 d))
 rw [<- hw3] at b3
 have A5 := Hd (show dB w3 w2.heap.size dK (rk0 d) by rw [hw3]; exact aD _ _)
 have hZ3 := aC b3 HZ2.out hl1
 have A1 := Hd (A1.out.below b3)
 have A2 := Hd (A2.out.below b3)
 have F3 := Hd HB2.out.size
 have HB3 := Hd (tr HB2.out b3)
 have HZ3 := Hd hZ3
 clear b3 k0 k1 k2 hl0 hl1 HB2 HZ2 HC2 hw3
 have hl1 := lt_of_block hZ3
 clear hZ3
 go_wp2_with fail
 refine (aPe w3).mono ?_
 rintro e w4 ⟨rfl, hw4⟩
 have b4 := aE (aH w3) (.cells (dl wz).toArray tD (0, 0))
 rw [<- hw4] at b4
 have A3 : eC w4 w3.heap.size wz := by rw [hw4]; exact aD _ _
 clear hw4
 have A1 := Hd (A1.out.below b4)
 have A2 := Hd (A2.out.below b4)
 have A5 := Hd (A5.out.below b4)
 have HZ4 := Hd (aC b4 HZ3.out hl1)
 have F4 := Hd HB3.out.size
 have HB4 := Hd (tr HB3.out b4)
 have A3 := Hd A3
 clear b4 hl1 HB3 HZ3
 have hl1 := lt_of_block HZ4.out
 go_wp2_with fail
 refine (aO1 w4).mono ?_
 rintro e w5 ⟨rfl, A4, b5⟩
 have A1 := Hd (A1.out.below b5)
 have A2 := Hd (A2.out.below b5)
 have A3 := Hd (A3.out.below b5)
 have A5 := Hd (A5.out.below b5)
 have HZ5 := Hd (aC b5 HZ4.out hl1)
 have F5 := Hd HB4.out.size
 have HB5 := Hd (tr HB4.out b5)
 have A4 := Hd A4
 clear b5 hl1 HB4 HZ4
 have hl1 := lt_of_block HZ5.out
 go_wp2_with fail
 refine (aPo w5).mono ?_
 rintro e w6 ⟨rfl, hw6⟩
 have b6 := aE (aH w5) (.cells #[.int .u32 0, .int .u32 0] 261)
 rw [<- hw6] at b6
 have A6 := Hd (show lK w6 w5.heap.size 0 0 by rw [hw6]; exact aD _ _)
 have A1 := Hd (A1.out.below b6)
 have A2 := Hd (A2.out.below b6)
 have A3 := Hd (A3.out.below b6)
 have A4 := Hd (A4.out.below b6)
 have A5 := Hd (A5.out.below b6)
 have hZ6 := aC b6 HZ5.out hl1
 have F6 := Hd HB5.out.size
 have HB6 := Hd (tr HB5.out b6)
 clear b6 hl1 HB5 HZ5 hw6
 obtain ⟨f1, f2⟩ := F1.out
 obtain ⟨f3, f4, f5⟩ := F2.out
 have f6 := F3.out
 have f7 := F4.out
 have f8 := F5.out
 have f9 := F6.out
 have D6 : bB w6 (nB pc W.heap.size pb gb qb w3.heap.size w4.heap.size w2.heap.size w5.heap.size n c d) (qQ d) 0 := ⟨A1.out, A2.out, A3.out, A4.out, A5.out, A6.out⟩
 have hF : (nB pc W.heap.size pb gb qb w3.heap.size w4.heap.size w2.heap.size w5.heap.size n c d).fresh w.heap.size :=
  ⟨fun k hk => by rcases hk with e | e | e | ⟨i, hi, e⟩ | e | e | e | e <;> rw [e] <;> first | exact f1 | exact f3 | exact f4 | exact f5 i hi | exact f7 | exact f8 | exact f6 | exact f9, f2⟩
 have hno := D6.no hZ6 (by decide)
 generalize W.heap.size = mc at *
 generalize w2.heap.size = q2 at *
 generalize w3.heap.size = q3 at *
 generalize w4.heap.size = q4 at *
 generalize w5.heap.size = q5 at *
 have hv6 := aBQ pc pb q3 q4 q2 q5
 have hB7 := aB HB6.out [Value.pointer (some ⟨pc, 0, none⟩), .pointer (some ⟨pb, 0, none⟩), .pointer (some ⟨q3, 0, none⟩), .pointer (some ⟨q4, 0, none⟩), .pointer (some ⟨q2, 0, none⟩), .pointer (some ⟨q5, 0, none⟩)].toArray (g := w.heap.size + 1) (Nat.le_succ _)
 have D7 := Hd (D6.off (aGv w6 (w.heap.size + 1) [Value.pointer (some ⟨pc, 0, none⟩), .pointer (some ⟨pb, 0, none⟩), .pointer (some ⟨q3, 0, none⟩), .pointer (some ⟨q4, 0, none⟩), .pointer (some ⟨q2, 0, none⟩), .pointer (some ⟨q5, 0, none⟩)].toArray) (fun k hk e => hno (e ▸ hk)) (yJ D6.c hZ6))
 have hZ7 := Hd (aY [Value.pointer (some ⟨pc, 0, none⟩), .pointer (some ⟨pb, 0, none⟩), .pointer (some ⟨q3, 0, none⟩), .pointer (some ⟨q4, 0, none⟩), .pointer (some ⟨q2, 0, none⟩), .pointer (some ⟨q5, 0, none⟩)].toArray hZ6)
 have HB7 := Hd hB7
 have HF := Hd hF
 clear f1 f2 f3 f4 f5 f6 f7 f8 f9 D6 hF hB7 hno A1 A2 A3 A4 A5 A6 F1 F2 F3 F4 F5 F6 HB6
 go_wp2_with (refine aJP rfl (.tmp 2) (.tmp 44) rfl rfl [.pointer (some ⟨pc, 0, none⟩), .pointer (some ⟨pb, 0, none⟩), .pointer (some ⟨q3, 0, none⟩), .pointer (some ⟨q4, 0, none⟩), .pointer (some ⟨q2, 0, none⟩), .pointer (some ⟨q5, 0, none⟩)] z6 rfl rfl hv6 rfl hZ6 ?_)
 exact bodyPost_ret (aMn rfl _ _ [.pointer (some ⟨pc, 0, none⟩), .pointer (some ⟨pb, 0, none⟩), .pointer (some ⟨q3, 0, none⟩), .pointer (some ⟨q4, 0, none⟩), .pointer (some ⟨q2, 0, none⟩), .pointer (some ⟨q5, 0, none⟩)] _ rfl rfl rfl hZ7.out) rfl ⟨_, rfl, D7.out, HB7.out, HF.out, rfl, rfl, rfl⟩
end Go.Proofs.YtaohacadochldaaGreat.B
