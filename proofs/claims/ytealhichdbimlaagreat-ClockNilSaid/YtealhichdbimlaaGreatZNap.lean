/- A part of the proof of a law of layer 12: ap. -/
import Derived.Test.YtealhichdbimlaaGreatZNao
import Derived.Great.BuildSlice
import Derived.Deep.RegionHeld
set_option linter.unusedVariables false
set_option linter.unusedSimpArgs false
set_option maxHeartbeats 12800000
set_option maxRecDepth 100000
namespace Go.Proofs.YtealhichdbimlaaGreat.B
open Go.Proofs.Tryz
open Go.ChangeShapes Go.WideShapes Go.RowKit Go.Sort
structure aY (w : World) (B : Bp) (x : Bx) (h : Int) : Prop where
 cell : w.heap[B.b]? = some (.cells B.cl.toArray uB (0, 0))
 dv : aN w B x h
 bus : bM w B.bp B.bm B.rv B.R B.ks B.pv (jY B)
 ev : eR w tEv B.ev x.es
section
variable {w w' : World} {B : Bp} {x y : Bx} {h g : Int}
theorem aU.raw (H : aU w B x) : aY w B x (wires B.n B.c x) := ⟨H.cell, H.dv, H.bus, H.ev⟩
theorem aY.done (H : aY w B x (wires B.n B.c x)) (ok : x.ok B.n B.c) (st : x.still) : aU w B x := ⟨H.cell, H.dv, H.bus, H.ev, ok, st⟩
theorem aY.lt (H : aY w B x h) {k : Nat} (hk : B.all k) : k < w.heap.size := by
 exact iV
theorem aY.kept (H : aY w B x h) (hk : ∀ k, B.all k -> w'.heap[k]? = w.heap[k]?) : aY w' B x h :=
 ⟨(hk _ (.inl (.inl rfl))).trans H.cell, H.dv.kept (fun k h => hk k (.inl (.inr (.inl h)))) (hk _ (.inr (.inl rfl))), H.bus.kept fun k h => hk k (.inr (.inr h)), H.ev.keep fun g hg => hk g (.inl (.inr (.inr hg)))⟩
theorem aY.below (H : aY w B x h) (hb : Below w.heap.size w w') : aY w' B x h := H.kept fun k hk => hb.block k (H.lt hk)
theorem aY.busApart (H : aY w B x h) {k : Nat} (hk : bF B.bp B.bm B.rv B.ks B.pv k) : ¬ B.own k := by
 exact iZ
theorem aY.mcApart (H : aY w B x h) : ¬ B.own B.mc := by
 exact jA
theorem aY.bApart (H : aY w B x h) : ¬ B.dvs B.b := H.dv.no H.cell (by decide)
theorem aY.evApart (H : aY w B x h) {k : Nat} (hk : B.ev.ownBlock = some k) : ¬ B.dvs k /\ k ≠ B.b := by
 exact iX
theorem aY.turn (H : aY w B x h) (D : aN w' B y g) (ho : aE B.dvs w w') (hes : y.es = x.es) : aY w' B y g :=
 ⟨ho.at H.cell H.bApart, D, H.bus.ofOff ho fun k hk hd => H.busApart hk (.inr (.inl hd)), hes ▸ H.ev.keep fun g hg => ho.block g (H.ev.lt hg) (H.evApart hg).1⟩
theorem dV (ho : aE B.dvs w w') : aE B.own w w' := ho.mono fun k _ h => .inr (.inl h)
theorem aY.cells (H : aY w B x h) : w.heap[B.b]? = some (.cells #[.pointer (some ⟨B.pc, 0, none⟩), .pointer (some ⟨B.pb, 0, none⟩), .pointer (some ⟨B.pd, 0, none⟩), .pointer (some ⟨B.ps, 0, none⟩), .pointer (some ⟨B.pr, 0, none⟩), .pointer (some ⟨B.pl, 0, none⟩), .int .i64 B.n, .int .i64 B.c, .int .u32 B.div, .pointer (some ⟨B.bp, 0, none⟩), B.ev] uB (0, 0)) := H.cell
end
theorem uZ {w : World} {b : Nat} {x y : Value} {t : TypeId} (h : w.heap[b]? = some (.cells #[x, y] t (0, 0))) : ∀ j u, [x, y][j]? = some u -> w.cell? ((⟨b, 0, none⟩ : Addr).add j) = some u := by
 intro j u hu
 rw [Addr.add_lit, Nat.zero_add, aA h j]
 simpa using hu
theorem aBT (a b : Int) : ∀ u ∈ [Value.int .u64 a, Value.int .i64 b], u.oneCell' = true := by
 intro u hu
 simp only [List.mem_cons, List.not_mem_nil, or_false] at hu
 rcases hu with rfl | rfl <;> rfl
theorem zY {v v' : Value} {n : Nat} (h : v'.ownBlock = v.ownBlock \/ v'.ownBlock = some n) : ∀ k, v'.ownBlock = some k -> v.ownBlock = some k \/ n <= k := by
 intro k hk
 rcases h with h | h
 . exact .inl (h ▸ hk)
 . rw [h] at hk; cases hk; exact .inr (Nat.le_refl _)
def nQ (B : Bp) (x : Bx) (h cause : Int) (w : World) (e : Ending) (w' : World) : Prop :=
 e = .returned (.tuple #[]) /\ ∃ ev', aY w' { B with ev := ev' } (x.rst cause) h /\ aE B.own w w' /\ ∀ k, ev'.ownBlock = some k -> B.ev.ownBlock = some k \/ w.heap.size <= k
theorem wF {B : Bp} {x : Bx} {h cause : Int} {w W1 W3 : World} {v' : Value} (H : aY W1 B { x.rst cause with es := x.es } h) (hW : aE B.own w W1)
 (hown : W3.ownsRow 0 148 2 v' (x.es.length + 1) (x.es.flatMap evC ++ [.int .u64 x.ti, .int .i64 cause])) (hgr : aE (fun k => B.ev.ownBlock = some k) W1 W3) (hat : ∀ k, v'.ownBlock = some k -> B.ev.ownBlock = some k \/ W1.heap.size <= k) :
 nQ B x h cause w (.returned (.tuple #[])) (W3.setCell ⟨B.b, 10, none⟩ v') := by
 have hb3 : W3.heap[B.b]? = some (.cells B.cl.toArray uB (0, 0)) := hgr.at H.cell (fun e => (H.evApart e).2 rfl)
 have hlb := lt_of_block H.cell
 have hso := bE W3 B.b 10 v'
 have hne : ∀ k, v'.ownBlock = some k -> k ≠ B.b := fun k hk e => by
  have h1 : kd W3 k = tEv + 1 := by obtain ⟨cur, hc⟩ := cG hown hk; exact aX hc
  rw [e, aX hb3] at h1; revert h1; decide
 have hO : aE (fun k => k = B.b \/ B.ev.ownBlock = some k) W1 (W3.setCell ⟨B.b, 10, none⟩ v') := (hgr.mono fun _ _ h => .inr h).next hso fun _ _ h => .inl h
 refine ⟨rfl, v', ⟨?_, ?_, ?_, ?_⟩, hW.trans (hO.mono fun k _ h => h.elim .inl fun h => .inr (.inr h)), fun k hk => (hat k hk).imp id fun h => Nat.le_trans hW.size h⟩
 . have := aK hb3 10 v'
   exact this
 . have D := H.dv.off hO (fun k hk e => e.elim (fun e => H.bApart (e ▸ hk)) (fun e => (H.evApart e).1 hk)) (fun e => H.mcApart (e.elim .inl fun e => .inr (.inr e)))
   exact ⟨D.c, D.b, D.d, D.s, D.r, D.l⟩
 . exact H.bus.ofOff hO fun k hk e => H.busApart hk (e.elim .inl fun e => .inr (.inr e))
 . have h1 : eR W3 tEv v' (x.es ++ [(x.ti, cause)]) := by
    unfold eR
    rw [List.length_append, List.flatMap_append]
    simpa [evC] using hown
   exact h1.keep fun g hg => hso.block g (h1.lt hg) (hne g hg)
theorem tR {w : World} {b : Nat} {e : TypeId} {n m : Nat} {v : Value} {xs : List Value} (h : w.ownsRow b e n v (m + 1) xs) : ∃ g cap, v = .slice (some ⟨g, 0, none⟩) (m + 1) cap := by
 rcases eF h with ⟨_, h2⟩ | ⟨g, cap, h1, _⟩
 . omega
 . exact ⟨g, cap, h1⟩
theorem eL {P : Prop} (h : P := by
 refine AllReady.cons rfl (fun K hK => ?_) AllReady.nil
 go_simp
 refine hK _ _ ?_
 clear hK K
 refine wpAny_ready (rs := [14]) (by kernel_rfl) (by simp) ?_
 refine AllReady.cons rfl (fun K hK => ?_) AllReady.nil
 refine cR rfl (.tmp 14) (.tmp 23) 107 rfl 0 148 i0 (.agg #[.int .u64 0, .int .i64 0]) 2 16 underlying107 HI.out HZ.out HZ1.out HZ2.out rfl (by decide) B.ev x.es.length (x.es.flatMap evC) rfl HEV.out ⟨w1.heap.size, 0, none⟩ 1 1 [.int .u64 x.ti, .int .i64 cause] rfl rfl HNV.out (aBT _ _) HMX.out HBY.out (Nat.zero_le _) ?_
 intro v' w3 hown3 hgr3 hnil3 hat3
 obtain ⟨g3, cap3, rfl⟩ := tR hown3
 have hE3 := Hd (wF H3.out HO3.out hown3 (aE.ofGrown hgr3 fun k e => e) (zY hat3))
 have hb3 := (aE.ofGrown (S := fun k => B.ev.ownBlock = some k) hgr3 fun k e => e).at H3.out.cells (fun e => (H3.out.evApart e).2 rfl)
 have hf3 := aG hb3 10
 have hc3 := aA hb3 10
 simp only [List.getElem?_toArray, List.getElem?_cons_zero, List.getElem?_cons_succ] at hc3
 clear hown3 hgr3 hnil3 hat3 hb3
 refine hK _ _ ?_
 clear hK K
 refine wpAny_take (i := 15) (v := .pointer (some ⟨B.b, 0, none⟩)) rfl (by kernel_rfl) (by kernel_rfl) (by kernel_rfl) (fun _ _ _ h => h) (Or.inl ⟨by kernel_rfl, fun w => by go_simp⟩) ?_
 refine wpAny_take (i := 16) (v := .pointer (some ⟨B.b, 10, none⟩)) rfl (by kernel_rfl) (by kernel_rfl) (by kernel_rfl) (fun _ _ _ h => h) (Or.inl ⟨by kernel_rfl, fun w => by go_simp⟩) ?_
 refine wpAny_ready (rs := [17]) (by kernel_rfl) (by simp) ?_
 refine AllReady.cons rfl (fun K hK => ?_) AllReady.nil
 go_simp
 refine hK _ _ ?_
 clear hK K
 refine wpAny_done (by kernel_rfl) ?_ _
 go_wp2_with fail
 go_end0
 exact hE3.out
 ) : P := h
theorem nR (B : Bp) (x : Bx) (h cause : Int) (w : World) (H : aY w B x h) (ok : x.ok B.n B.c) (hl : x.es.length < 4294967296) :
 Calls prog 42 #[.pointer (some ⟨B.b, 0, none⟩), .int .i64 cause] w (nQ B x h cause w) := by
 obtain ⟨i0, hi, hz0, hz1, hz2⟩ := info_parts zC
 have hX := H.cells
 have hlb := lt_of_block hX
 have c0 := aA hX 0
 have c1 := aA hX 1
 have c2 := aA hX 2
 have c3 := aA hX 3
 have c4 := aA hX 4
 have c5 := aA hX 5
 simp only [List.getElem?_toArray, List.getElem?_cons_zero, List.getElem?_cons_succ] at c0 c1 c2 c3 c4 c5
 have HI := Hd hi
 have HZ := Hd hz0
 have HZ1 := Hd hz1
 have HZ2 := Hd hz2
 have HH := Hd H
 have HOK := Hd ok
 have HMX := Hd (show x.es.length + 1 <= maxLen by unfold maxLen; omega)
 have HBY := Hd (show (x.es.length + 1) * 16 <= 140737488355328 by omega)
 clear hi hz0 hz1 hz2 hX H ok hl
 go_enter func42, ntmps42
 go_wp2_with fail
 refine (aAW B x h cause w HH.out.dv HOK.out).mono ?_
 rintro e w1 ⟨rfl, d1, ho1⟩
 have H1 : aY w1 B { x.rst cause with es := x.es } h := HH.out.turn ⟨d1.c, d1.b, d1.d, d1.s, d1.r, d1.l⟩ ho1 rfl
 have hX1 := H1.cells
 have hl1 := lt_of_block hX1
 have hO1 := dV ho1
 clear c0 c1 c2 c3 c4 c5
 have c0 := aA hX1 0
 have c10 := aA hX1 10
 simp only [List.getElem?_toArray, List.getElem?_cons_zero, List.getElem?_cons_succ] at c0 c10
 have HH1 := Hd H1
 have HO1 := Hd hO1
 have HT := Hd (show ∀ (u : World), aN u B { x.rst cause with es := x.es } h -> Calls prog 45 #[.pointer (some ⟨B.pc, 0, none⟩)] u fun e w' => e = .returned (.int .u64 x.ti) /\ u = w' from fun u A => aA1 _ _ _ _ B.pc B.mc u A.c)
 have hW := aO (qB (aV w1)) (.cells #[.int .u64 x.ti, .int .i64 cause] 148)
 have H3 := Hd (H1.below hW)
 have HEV := Hd (H1.below hW).ev
 have HO3 := Hd (hO1.trans (aE.ofBelow (S := B.own) hW))
 have HNV := Hd (uZ (aD w1.drew (.cells #[.int .u64 x.ti, .int .i64 cause] 148)))
 clear H1 hX1 hO1 d1 ho1 hlb hW
 have hc := Hd (enters_of func45 (by kernel_rfl) rfl)
 go_wp2_with fail
 refine wp_region_any (by kernel_rfl) ?_
 try (change wpAny _ _ _ _ _ _ _ (World.drew _))
 refine wpAny_take (i := 0) (v := .pointer (some ⟨B.b, 0, none⟩)) rfl (by kernel_rfl) (by kernel_rfl) (by kernel_rfl) (fun _ _ _ h => h) (Or.inl ⟨by kernel_rfl, fun w => by go_simp⟩) ?_
 refine wpAny_take (i := 1) (v := .pointer (some ⟨B.b, 0, none⟩)) rfl (by kernel_rfl) (by kernel_rfl) (by kernel_rfl) (fun _ _ _ h => h) (Or.inl ⟨by kernel_rfl, fun w => by go_simp⟩) ?_
 refine wpAny_take (i := 2) (v := .pointer (some ⟨B.b, 0, none⟩)) rfl (by kernel_rfl) (by kernel_rfl) (by kernel_rfl) (fun _ _ _ h => h) (Or.inl ⟨by kernel_rfl, fun w => by go_simp⟩) ?_
 refine wpAny_take (i := 3) (v := .pointer (some ⟨B.b, 10, none⟩)) rfl (by kernel_rfl) (by kernel_rfl) (by kernel_rfl) (fun _ _ _ h => h) (Or.inl ⟨by kernel_rfl, fun w => by go_simp⟩) ?_
 refine wpAny_take (i := 5) (v := .pointer (some ⟨B.b, 0, none⟩)) rfl (by kernel_rfl) (by kernel_rfl) (by kernel_rfl) (fun _ _ _ h => h) (Or.inl ⟨by kernel_rfl, fun w => by go_simp⟩) ?_
 refine wpAny_take (i := 6) (v := .pointer (some ⟨B.b, 0, none⟩)) rfl (by kernel_rfl) (by kernel_rfl) (by kernel_rfl) (fun _ _ _ h => h) (Or.inl ⟨by kernel_rfl, fun w => by go_simp⟩) ?_
 refine wpAny_take (i := 7) (v := .pointer (some ⟨B.b, 0, none⟩)) rfl (by kernel_rfl) (by kernel_rfl) (by kernel_rfl) (fun _ _ _ h => h) (Or.inl ⟨by kernel_rfl, fun w => by go_simp⟩) ?_
 refine wpAny_take (i := 8) (v := .pointer (some ⟨B.b, 0, none⟩)) rfl (by kernel_rfl) (by kernel_rfl) (by kernel_rfl) (fun _ _ _ h => h) (Or.inl ⟨by kernel_rfl, fun w => by go_simp⟩) ?_
 refine wpAny_take (i := 11) (v := .int .i64 cause) rfl (by kernel_rfl) (by kernel_rfl) (by kernel_rfl) (fun _ _ _ h => h) (Or.inl ⟨by kernel_rfl, fun w => by go_simp⟩) ?_
 refine wpAny_ready (rs := [4, 9]) (by kernel_rfl) (by simp) ?_
 refine AllReady.cons rfl (fun K hK => ?_) (AllReady.cons rfl (fun K hK => ?_) AllReady.nil)
 . go_simp
   refine hK _ _ ?_
   clear hK K
   refine wpAny_ready (rs := [9]) (by kernel_rfl) (by simp) ?_
   refine AllReady.cons rfl (fun K hK => ?_) AllReady.nil
   go_simp
   refine hK _ _ ?_
   clear hK K
   refine wpAny_ready (rs := [10]) (by kernel_rfl) (by simp) ?_
   refine AllReady.cons rfl (fun K hK => ?_) AllReady.nil
   go_simp
   go_wp2_with (go_at_call 45; refine (HT.out _ (HH1.out.dv.below (qB (aV w1)))).mono ?_; rintro e w' ⟨rfl, rfl⟩)
   refine wpAny_take (i := 12) (v := .agg #[.int .u64 x.ti, .int .i64 cause]) rfl (by kernel_rfl) (by kernel_rfl) (by kernel_rfl) (fun _ _ _ h => h) (Or.inl ⟨by kernel_rfl, fun w => by go_simp⟩) ?_
   refine wpAny_ready (rs := [13]) (by kernel_rfl) (by simp) ?_
   exact eL
 . go_simp
   refine hK _ _ ?_
   clear hK K
   refine wpAny_ready (rs := [4, 10]) (by kernel_rfl) (by simp) ?_
   refine AllReady.cons rfl (fun K hK => ?_) (AllReady.cons rfl (fun K hK => ?_) AllReady.nil)
   . go_simp
     refine hK _ _ ?_
     clear hK K
     refine wpAny_ready (rs := [10]) (by kernel_rfl) (by simp) ?_
     refine AllReady.cons rfl (fun K hK => ?_) AllReady.nil
     go_simp
     go_wp2_with (go_at_call 45; refine (HT.out _ (HH1.out.dv.below (qB (aV w1)))).mono ?_; rintro e w' ⟨rfl, rfl⟩)
     refine wpAny_take (i := 12) (v := .agg #[.int .u64 x.ti, .int .i64 cause]) rfl (by kernel_rfl) (by kernel_rfl) (by kernel_rfl) (fun _ _ _ h => h) (Or.inl ⟨by kernel_rfl, fun w => by go_simp⟩) ?_
     refine wpAny_ready (rs := [13]) (by kernel_rfl) (by simp) ?_
     exact eL
   . go_simp
     go_wp2_with (go_at_call 45; refine (HT.out _ (HH1.out.dv.below (qB (aV w1)))).mono ?_; rintro e w' ⟨rfl, rfl⟩)
     refine wpAny_take (i := 12) (v := .agg #[.int .u64 x.ti, .int .i64 cause]) rfl (by kernel_rfl) (by kernel_rfl) (by kernel_rfl) (fun _ _ _ h => h) (Or.inl ⟨by kernel_rfl, fun w => by go_simp⟩) ?_
     refine wpAny_ready (rs := [4, 13]) (by kernel_rfl) (by simp) ?_
     refine AllReady.cons rfl (fun K hK => ?_) (AllReady.cons rfl (fun K hK => ?_) AllReady.nil)
     . go_simp
       refine hK _ _ ?_
       clear hK K
       refine wpAny_ready (rs := [13]) (by kernel_rfl) (by simp) ?_
       exact eL
     . go_simp
       refine hK _ _ ?_
       clear hK K
       refine wpAny_ready (rs := [4]) (by kernel_rfl) (by simp) ?_
       exact eL
theorem qI (B : Bp) (x : Bx) (a : Int) (w : World) (H : aU w B x) (a0 : 0 <= a) (a1 : a < 4294967296) :
 Calls prog 70 #[.pointer (some ⟨B.b, 0, none⟩), .int .u32 a] w fun e w' => e = .returned (.tuple #[.int .u32 (x.ldv B.n B.c a), .int .i64 (Bx.lde B.n B.c a)]) /\ Below w.heap.size w w' := by
 have hf0 := fB2
 have HH := Hd H
 have HN := Hd (aAv B x w H)
 clear H
 go_enter func70, ntmps70
 go_wp2_with fail
 refine (HN.out).mono ?_
 rintro e w1 ⟨rfl, hb1⟩
 have HH1 := Hd (HH.out.below hb1)
 have HB1 := Hd hb1
 clear hb1
 go_wp2_with fail
 refine (oR a HH1.out a0 a1).mono ?_
 rintro e w2 ⟨rfl, hb2⟩
 go_wp2_with fail
 go_ret2
 exact ⟨rfl, tr HB1.out hb2⟩
def dR (B : Bp) (y : Bx) (w w' : World) : Prop := ∃ ev', aU w' { B with ev := ev' } y /\ aE B.own w w' /\ ∀ k, ev'.ownBlock = some k -> B.ev.ownBlock = some k \/ w.heap.size <= k
theorem vM {B : Bp} {y : Bx} {w w' : World} (H : aY w' B y (wires B.n B.c y)) (ok : y.ok B.n B.c) (st : y.still) (ho : aE B.own w w') : dR B y w w' :=
 ⟨B.ev, H.done ok st, ho, fun k hk => .inl hk⟩
theorem nX {B : Bp} {y : Bx} {ev' : Value} {w w' : World} (H : aY w' { B with ev := ev' } y (wires B.n B.c y)) (ok : y.ok B.n B.c) (st : y.still) (ho : aE B.own w w') (he : ∀ k, ev'.ownBlock = some k -> B.ev.ownBlock = some k \/ w.heap.size <= k) : dR B y w w' :=
 ⟨ev', H.done ok st, ho, he⟩
theorem nF {n c : Nat} (x : Bx) (a v : Int) : (x.put n c a v).es = x.es := by
 unfold Bx.put
 split <;> first | rfl | (split <;> rfl)
section
variable {n c : Nat} {x : Bx}
end
theorem kV (x : Bx) (N : Int) : (x.tick N).es = x.es \/ (x.tick N).es = x.es ++ [((x.later N).ti, (x.later N).wd.fa)] := by
 unfold Bx.tick
 split
 . exact .inl rfl
 . exact .inr rfl
theorem mA (x : Bx) (N : Int) : (x.tick N).es.length <= x.es.length + 1 := by
 rcases kV x N with h | h <;> rw [h] <;> simp
structure Pt where
 x : Bx
 gs : List Int
 md : Nat
 sp : Int
 se : Nat
def Pt.dn (p : Pt) : Bool := decide (p.se < p.x.es.length)
def Pt.gp (p : Pt) : Int := p.gs.getD (p.md % p.gs.length) 0
def Pt.pass (p : Pt) : Pt := { p with md := p.md + 1, sp := p.sp + p.gp, x := p.x.tick p.gp }
def Pt.tk (p : Pt) (N : Int) : Pt := { p with x := p.x.tick N }
def Pt.ldp (p : Pt) : Pt := if p.dn = true then p else p.pass
def Pt.ldv (n c : Nat) (p : Pt) (a : Int) : Int := if p.dn = true then 0 else if p.pass.dn = true then 0 else p.pass.x.ldv n c a
def Pt.lde (n c : Nat) (p : Pt) (a : Int) : Int := if p.dn = true then 13 else if p.pass.dn = true then 13 else Bx.lde n c a
def Pt.put (n c : Nat) (p : Pt) (a v : Int) : Pt := { p with x := p.x.sto n c a v }
def Bx.told (x : Bx) : Prop := x.rs.ct = x.es.length
theorem mB {x : Bx} (h : x.told) {cause : Int} (hc : iK cause) (hl : x.es.length < 4294967295) : (x.rst cause).told := by
 unfold Bx.told at *
 show (x.rs.ltc cause).ct = ((x.es ++ [(x.ti, cause)]).length : Nat)
 unfold Rs.ltc
 rw [if_pos hc]
 show uG x.rs.ct = _
 unfold uG
 rw [h, if_pos (by omega)]
 simp
theorem jV {n c : Nat} {x : Bx} (h : x.told) (hs : x.still) (hl : x.es.length < 4294967295) (N : Int) : (x.tick N).told := by
 by_cases hf : (x.later N).wd.fa = 0
 . rw [Bx.tick_no hf]; exact h
 . rw [Bx.tick_yes hf]
   have e : (x.later N).wd.fa = 2 := dX hs.1 hf
   have := mB (x := x.later N) (show (x.later N).told from h) (cause := (x.later N).wd.fa) (by rw [e]; exact kH) hl
   exact this
theorem aAC {n c : Nat} (x : Bx) (a v : Int) : (x.put n c a v).rs.ct = x.rs.ct := by
 unfold Bx.put
 split <;> first | rfl | (split <;> rfl) | skip
 show (x.rs.sto _ _).ct = _
 unfold Rs.sto
 split
 . rfl
 . split <;> rfl
theorem uD {n c : Nat} {x : Bx} (h : x.told) (hs : x.still) (hl : x.es.length < 4294967295) (a v : Int) : (x.sto n c a v).told := by
 have h1 : (x.put n c a v).told := by unfold Bx.told at *; rw [aAC, nF]; exact h
 unfold Bx.sto Bx.look
 by_cases hd : (x.put n c a v).due = 0
 . rw [if_pos hd]; exact h1
 . rw [if_neg hd]
   exact mB h1 ((Bx.put_isC hs a v).resolve_left hd) (by rw [nF]; exact hl)
structure Pt.ok (m : Nat) (p : Pt) : Prop where
 td : p.x.told
 se : p.se <= p.x.es.length
 es : p.x.es.length <= m
 md : p.md <= m
 s0 : 0 <= p.sp
 s1 : p.sp <= p.md * 4294967295
 gl : p.gs.length <= 64
 gs : ∀ g ∈ p.gs, 0 <= g /\ g < 4294967296
section
variable {n c m : Nat} {p : Pt}
theorem Pt.ok.le (h : p.ok m) {k : Nat} (hk : m <= k) : p.ok k := ⟨h.td, h.se, Nat.le_trans h.es hk, Nat.le_trans h.md hk, h.s0, h.s1, h.gl, h.gs⟩
theorem Pt.gp_bounds (h : ∀ g ∈ p.gs, 0 <= g /\ g < 4294967296) : 0 <= p.gp /\ p.gp < 4294967296 := by
 unfold Pt.gp
 rw [List.getD_eq_getElem?_getD]
 cases e : p.gs[p.md % p.gs.length]? with
 | none => exact ⟨Int.le_refl _, by decide⟩
 | some g => exact h g (List.mem_of_getElem? e)
theorem Pt.gp_get {i : Nat} {g : Int} (hi : p.md % p.gs.length = i) (h : p.gs[i]? = some g) : p.gp = g := by
 unfold Pt.gp
 rw [hi, List.getD_eq_getElem?_getD, h]
 rfl
theorem Pt.gp_nil (h : p.gs.length = 0) : p.gp = 0 := by
 unfold Pt.gp
 rw [List.length_eq_zero_iff.1 h]
 rfl
theorem Pt.pass_ok (h : p.ok m) (hs : p.x.still) (hm : m < 4294967290) : p.pass.ok (m + 1) := by
 have hg := Pt.gp_bounds h.gs
 have hl := mA p.x p.gp
 have h0 := h.se
 have h1 := h.es
 have h2 := h.s0
 have h3 := h.s1
 have h4 := h.md
 refine ⟨jV (n := 0) (c := 0) h.td hs (by omega) _, ?_, ?_, ?_, ?_, ?_, h.gl, h.gs⟩
 . show p.se <= (p.x.tick p.gp).es.length
   rcases kV p.x p.gp with e | e <;> rw [e]
   . exact h0
   . simp; omega
 . show (p.x.tick p.gp).es.length <= m + 1
   omega
 . show p.md + 1 <= m + 1
   omega
 . show 0 <= p.sp + p.gp
   omega
 . show p.sp + p.gp <= ((p.md + 1 : Nat) : Int) * 4294967295
   omega
theorem Pt.tk_ok (h : p.ok m) (hs : p.x.still) (hm : m < 4294967290) (N : Int) : (p.tk N).ok (m + 1) := by
 have hl := mA p.x N
 have h0 := h.se
 have h1 := h.es
 refine ⟨jV (n := 0) (c := 0) h.td hs (by omega) _, ?_, ?_, Nat.le_succ_of_le h.md, h.s0, h.s1, h.gl, h.gs⟩
 . show p.se <= (p.x.tick N).es.length
   rcases kV p.x N with e | e <;> rw [e]
   . exact h0
   . simp; omega
 . show (p.x.tick N).es.length <= m + 1
   omega
theorem aAM {n c : Nat} (x : Bx) (a v : Int) : ∃ l, (x.sto n c a v).es = x.es ++ l /\ l.length <= 1 := by
 have hp := nF (n := n) (c := c) x a v
 unfold Bx.sto Bx.look
 split
 . exact ⟨[], by rw [hp]; simp, by simp⟩
 . exact ⟨[_], by show (x.put n c a v).es ++ [_] = _; rw [hp], by simp⟩
theorem Pt.put_ok (h : p.ok m) (hs : p.x.still) (hm : m < 4294967290) (a v : Int) : (p.put n c a v).ok (m + 1) := by
 have h0 := h.se
 have h1 := h.es
 obtain ⟨l, e, hl⟩ := aAM (n := n) (c := c) p.x a v
 refine ⟨uD h.td hs (by omega) a v, ?_, ?_, Nat.le_succ_of_le h.md, h.s0, h.s1, h.gl, h.gs⟩
 . show p.se <= (p.x.sto n c a v).es.length
   rw [e]; simp; omega
 . show (p.x.sto n c a v).es.length <= m + 1
   rw [e]; simp; omega
theorem Pt.ldp_ok (h : p.ok m) (hs : p.x.still) (hm : m < 4294967290) : p.ldp.ok (m + 1) := by
 unfold Pt.ldp
 split
 . exact h.le (Nat.le_succ _)
 . exact Pt.pass_ok h hs hm
end
structure Rd where
 p : Pt
 v : Int
 e : Int
def Pt.rds (n c : Nat) : Nat -> Pt -> Int -> Rd
 | 0, p, f => ⟨p, dB f 0, 0⟩
 | k + 1, p, f => if p.lde n c 33603576 = 0 then (if p.ldp.lde n c 33603580 = 0 then (if f = p.ldp.ldv n c 33603580 then ⟨p.ldp.ldp, dB f (p.ldv n c 33603576), 0⟩ else p.ldp.ldp.rds n c k (p.ldp.ldv n c 33603580)) else ⟨p.ldp.ldp, 0, p.ldp.lde n c 33603580⟩)
   else ⟨p.ldp, 0, p.lde n c 33603576⟩
def Pt.rd (n c : Nat) (p : Pt) : Rd := if p.lde n c 33603580 = 0 then p.ldp.rds n c 4 (p.ldv n c 33603580) else ⟨p.ldp, 0, p.lde n c 33603580⟩
theorem aBm : wh 33603580 = .cl 49148 := by unfold wh; rw [if_neg (by decide), if_pos (by decide)]; rfl
theorem aBn : wh 33603576 = .cl 49144 := by unfold wh; rw [if_neg (by decide), if_pos (by decide)]; rfl
section
variable {n c m : Nat} {p : Pt} {x : Bx}
theorem sG : x.ldv n c 33603580 = hi x.ti /\ Bx.lde n c 33603580 = 0 := by
 unfold Bx.ldv Bx.lde
 rw [aBm]
 have e : cT n 49148 = 0 := by unfold cT; rw [if_neg (by decide), if_pos (.inr (.inl rfl))]
 refine ⟨?_, e⟩
 show eA x.ti n x.D x.S 49148 = _
 unfold eA
 rw [e, if_neg (by decide), if_neg (by decide), if_pos rfl]
theorem sH : x.ldv n c 33603576 = lo x.ti /\ Bx.lde n c 33603576 = 0 := by
 unfold Bx.ldv Bx.lde
 rw [aBn]
 have e : cT n 49144 = 0 := by unfold cT; rw [if_neg (by decide), if_pos (.inl rfl)]
 refine ⟨?_, e⟩
 show eA x.ti n x.D x.S 49144 = _
 unfold eA
 rw [e, if_neg (by decide), if_pos rfl]
theorem zJ : p.lde n c 33603580 = if p.ldp.dn = true then 13 else 0 := by
 unfold Pt.lde Pt.ldp
 rw [sG (n := n) (c := c) (x := p.x) |>.2]
 by_cases h : p.dn = true
 . rw [if_pos h, if_pos h, if_pos h]
 . rw [if_neg h, if_neg h]
theorem zK : p.lde n c 33603576 = if p.ldp.dn = true then 13 else 0 := by
 unfold Pt.lde Pt.ldp
 rw [sH (n := n) (c := c) (x := p.x) |>.2]
 by_cases h : p.dn = true
 . rw [if_pos h, if_pos h, if_pos h]
 . rw [if_neg h, if_neg h]
theorem gX (H : p.ok m) (ok : p.x.ok n c) (st : p.x.still) (hm : m < 4294967280) : p.ldp.ok (m + 1) /\ p.ldp.x.ok n c /\ p.ldp.x.still := by
 refine ⟨Pt.ldp_ok H st (by omega), ?_⟩
 have g := Pt.gp_bounds H.gs
 unfold Pt.ldp
 split
 . exact ⟨ok, st⟩
 . exact Bx.tick_ok ok st (N := p.gp) g.1 (by omega)
theorem pE {t : Int} (h0 : 0 <= t) (h1 : t < 18446744073709551616) : 0 <= hi t /\ hi t < 4294967296 := ⟨gC h0, rQ h1⟩
theorem gY {a : Int} (ok : p.x.ok n c) (st : p.x.still) (H : p.ok m) (ha : a = 33603580 \/ a = 33603576) : 0 <= p.ldv n c a /\ p.ldv n c a < 4294967296 := by
 unfold Pt.ldv
 split
 . exact ⟨Int.le_refl _, by decide⟩
 . split
   . exact ⟨Int.le_refl _, by decide⟩
   . have g := Pt.gp_bounds H.gs
     have o : p.pass.x.ok n c := (Bx.tick_ok ok st (N := p.gp) g.1 (by omega)).1
     rcases ha with rfl | rfl
     . rw [sG.1]; exact pE o.t0 o.t1
     . rw [sH.1]; exact ⟨dN _, nY _⟩
end
section
variable {P : Program} {ops : Array Oper} {Q : Exit -> Act -> World -> Prop} {md : Region.Mode} {S : World -> Prop}
theorem tkH {i : Nat} {oi : Oper} {v : Value} {fuel : Nat} {listed : Array Bool} {a : Act} {w : World} (hi : ops[i]? = some oi)
 (hb : (Region.noSelect ops && Region.free md ops listed i && (Region.ready md ops listed).contains i && Region.wanted oi (yielded ops a.tmps)) = true)
 (hQ : ∀ c a w, Q (.panic c) (a.put oi.dst v) w -> Q (.panic c) a w) (hy : ∀ w, S w -> (execOp a.eval oi).run P w = .ok (.value v) w) (hS : S w)
 (h : wpAnyH P md ops Q S fuel (listed.setIfInBounds i true) (a.put oi.dst v) w) : wpAnyH P md ops Q S (fuel + 1) listed a w := by
 simp only [Bool.and_eq_true] at hb
 exact wpAnyH_take hi hb.1.1.1 hb.1.1.2 hb.1.2 hQ (.inl ⟨hb.2, hy⟩) hS h
theorem tkG {i : Nat} {oi : Oper} {v : Value} {fuel : Nat} {listed : Array Bool} {a : Act} {w : World} (hS : S w) (h : wpAnyH P md ops Q S fuel (listed.setIfInBounds i true) (a.put oi.dst v) w) (hi : ops[i]? = some oi := by exact rfl)
 (hb : (Region.noSelect ops && Region.free md ops listed i && (Region.ready md ops listed).contains i && Region.wanted oi (yielded ops a.tmps)) = true := by kernel_rfl)
 (hQ : ∀ c a w, Q (.panic c) (a.put oi.dst v) w -> Q (.panic c) a w := by exact fun _ _ _ h => h) (hy : ∀ w, S w -> (execOp a.eval oi).run P w = .ok (.value v) w := by intro w' hSw; clear hSw; go_simp) :
 wpAnyH P md ops Q S (fuel + 1) listed a w := tkH hi hb hQ hy hS h
theorem rdH {fuel : Nat} {listed : Array Bool} {a : Act} {w : World} {i : Nat} {o : Oper} (hr : Region.ready md ops listed = [i]) (ho : ops[i]? = some o)
 (h : ∀ K' : Act -> World -> Prop, Shut (∀ a w, S w -> (S w -> wpAnyH P md ops Q S fuel (listed.setIfInBounds i true) a w) -> K' a w) -> if Region.wanted o (yielded ops a.tmps) = true then Oper.wp P o a w K' Q else K' (a.put o.dst undef) w) :
 wpAnyH P md ops Q S (fuel + 1) listed a w := wpAnyH_ready hr (by simp) (AllReadyH.cons ho h AllReadyH.nil)
end
theorem lgA {α : Type} {xs : List α} {i : Nat} (h : i < xs.toArray.size) : xs.toArray[i]'h = xs[i]'(by simpa using h) := List.getElem_toArray h
theorem lgZ {α : Type} {a : α} {bs : List α} (h : 0 < (a :: bs).length) : (a :: bs)[0]'h = a := List.getElem_cons_zero _ _ h
theorem lgS {α : Type} {a : α} {bs : List α} {i : Nat} (h : i + 1 < (a :: bs).length) : (a :: bs)[i + 1]'h = bs[i]'(by simpa using h) := List.getElem_cons_succ _ _ _ h
theorem lsA {α : Type} {l : List α} {i : Nat} {x : α} : l.toArray.setIfInBounds i x = (l.set i x).toArray := List.setIfInBounds_toArray _ _ _
theorem lsZ {α : Type} {x y : α} {l : List α} : (x :: l).set 0 y = y :: l := List.set_cons_zero
theorem lsS {α : Type} {x y : α} {l : List α} {n : Nat} : (x :: l).set (n + 1) y = x :: l.set n y := List.set_cons_succ
end Go.Proofs.YtealhichdbimlaaGreat.B
