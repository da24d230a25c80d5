/- A part of the proof of a law of layer 12: as. -/
import Derived.Test.YtaohacadochldaaGreatZCar
import Derived.Great.BuildSlice
set_option linter.unusedVariables false
set_option linter.unusedSimpArgs false
set_option maxHeartbeats 12800000
set_option maxRecDepth 100000
namespace Go.Proofs.YtaohacadochldaaGreat.B
open Go.Proofs.Tryz
open List renaming getElem?_toArray -> y0q, getElem?_cons_zero -> y1q, getElem?_cons_succ -> y2q
open Go.ChangeShapes Go.WideShapes Go.RowKit Go.Sort
structure dG (w : World) (B : Bp) (x : Bx) (h : Int) : Prop where
 cell : w.heap[B.b]? = some (.cells B.cl.toArray tBd (0, 0))
 dv : bB w B x h
 bus : eZ w B.bp B.bm B.rv B.R B.ks B.pv (sH B)
 ev : gN w tEv B.ev x.es
section
variable {w w' : World} {B : Bp} {x y : Bx} {h g : Int}
theorem aZ.raw (H : aZ w B x) : dG w B x (wires B.n B.c x) := ⟨H.cell, H.dv, H.bus, H.ev⟩
theorem dG.done (H : dG w B x (wires B.n B.c x)) (ok : x.ok B.n B.c) (st : x.still) : aZ w B x := ⟨H.cell, H.dv, H.bus, H.ev, ok, st⟩
theorem dG.lt (H : dG w B x h) {k : Nat} (hk : B.all k) : k < w.heap.size := by
 exact wI
theorem dG.kept (H : dG w B x h) (hk : ∀ k, B.all k -> w'.heap[k]? = w.heap[k]?) : dG w' B x h :=
 ⟨(hk _ (.inl (.inl rfl))).trans H.cell, H.dv.kept (fun k h => hk k (.inl (.inr (.inl h)))) (hk _ (.inr (.inl rfl))), H.bus.kept fun k h => hk k (.inr (.inr h)), H.ev.keep fun g hg => hk g (.inl (.inr (.inr hg)))⟩
theorem dG.below (H : dG w B x h) (hb : Below w.heap.size w w') : dG w' B x h := H.kept fun k hk => hb.block k (H.lt hk)
theorem dG.busApart (H : dG w B x h) {k : Nat} (hk : eK B.bp B.bm B.rv B.ks B.pv k) : ¬ B.own k := by
 exact wQ
theorem dG.mcApart (H : dG w B x h) : ¬ B.own B.mc := by
 exact wS
theorem dG.bApart (H : dG w B x h) : ¬ B.dvs B.b := H.dv.no H.cell (by decide)
theorem dG.evApart (H : dG w B x h) {k : Nat} (hk : B.ev.ownBlock = some k) : ¬ B.dvs k /\ k ≠ B.b := by
 exact wL
theorem dG.turn (H : dG w B x h) (D : bB w' B y g) (ho : aF B.dvs w w') (hes : y.es = x.es) : dG w' B y g :=
 ⟨ho.at H.cell H.bApart, D, H.bus.ofOff ho fun k hk hd => H.busApart hk (.inr (.inl hd)), hes ▸ H.ev.keep fun g hg => ho.block g (H.ev.lt hg) (H.evApart hg).1⟩
theorem iN (ho : aF B.dvs w w') : aF B.own w w' := ho.mono fun k _ h => .inr (.inl h)
theorem dG.cells (H : dG w B x h) : w.heap[B.b]? = some (.cells #[.pointer (some ⟨B.pc, 0, none⟩), .pointer (some ⟨B.pb, 0, none⟩), .pointer (some ⟨B.pd, 0, none⟩), .pointer (some ⟨B.ps, 0, none⟩), .pointer (some ⟨B.pr, 0, none⟩), .pointer (some ⟨B.pl, 0, none⟩), .int .i64 B.n, .int .i64 B.c, .int .u32 B.div, .pointer (some ⟨B.bp, 0, none⟩), B.ev] tBd (0, 0)) := H.cell
end
theorem aDS {w : World} {b : Nat} {x y : Value} {t : TypeId} (h : w.heap[b]? = some (.cells #[x, y] t (0, 0))) : ∀ j u, [x, y][j]? = some u -> w.cell? ((⟨b, 0, none⟩ : Addr).add j) = some u := by
 intro j u hu
 rw [Addr.add_lit, Nat.zero_add, aA h j]
 simpa using hu
theorem aKV (a b : Int) : ∀ u ∈ [Value.int .u64 a, Value.int .i64 b], u.oneCell' = true := by
 intro u hu
 simp only [List.mem_cons, List.not_mem_nil, or_false] at hu
 rcases hu with rfl | rfl <;> rfl
theorem aMQ {v v' : Value} {n : Nat} (h : v'.ownBlock = v.ownBlock \/ v'.ownBlock = some n) : ∀ k, v'.ownBlock = some k -> v.ownBlock = some k \/ n <= k := by
 intro k hk
 rcases h with h | h
 . exact .inl (h ▸ hk)
 . rw [h] at hk; cases hk; exact .inr (Nat.le_refl _)
def aDM (B : Bp) (x : Bx) (h cause : Int) (w : World) (e : Ending) (w' : World) : Prop :=
 e = .returned (.tuple #[]) /\ ∃ ev', dG w' { B with ev := ev' } (x.rst cause) h /\ aF B.own w w' /\ ∀ k, ev'.ownBlock = some k -> B.ev.ownBlock = some k \/ w.heap.size <= k
theorem aJG {B : Bp} {x : Bx} {h cause : Int} {w W1 W3 : World} {v' : Value} (H : dG W1 B { x.rst cause with es := x.es } h) (hW : aF B.own w W1)
 (hown : W3.ownsRow 0 156 2 v' (x.es.length + 1) (x.es.flatMap zN ++ [.int .u64 x.ti, .int .i64 cause])) (hgr : aF (fun k => B.ev.ownBlock = some k) W1 W3) (hat : ∀ k, v'.ownBlock = some k -> B.ev.ownBlock = some k \/ W1.heap.size <= k) :
 aDM B x h cause w (.returned (.tuple #[])) (W3.setCell ⟨B.b, 10, none⟩ v') := by
 have hb3 : W3.heap[B.b]? = some (.cells B.cl.toArray tBd (0, 0)) := hgr.at H.cell (fun e => (H.evApart e).2 rfl)
 have hlb := lt_of_block H.cell
 have hso := aG W3 B.b 10 v'
 have hne : ∀ k, v'.ownBlock = some k -> k ≠ B.b := fun k hk e => by
  have h1 : kd W3 k = tEv + 1 := by obtain ⟨cur, hc⟩ := gB hown hk; exact bT hc
  rw [e, bT hb3] at h1; revert h1; decide
 have hO : aF (fun k => k = B.b \/ B.ev.ownBlock = some k) W1 (W3.setCell ⟨B.b, 10, none⟩ v') := (hgr.mono fun _ _ h => .inr h).next hso fun _ _ h => .inl h
 refine ⟨rfl, v', ⟨?_, ?_, ?_, ?_⟩, hW.trans (hO.mono fun k _ h => h.elim .inl fun h => .inr (.inr h)), fun k hk => (hat k hk).imp id fun h => Nat.le_trans hW.size h⟩
 . have := aR hb3 10 v'
   exact this
 . have D := H.dv.off hO (fun k hk e => e.elim (fun e => H.bApart (e ▸ hk)) (fun e => (H.evApart e).1 hk)) (fun e => H.mcApart (e.elim .inl fun e => .inr (.inr e)))
   exact ⟨D.c, D.b, D.d, D.s, D.r, D.l⟩
 . exact H.bus.ofOff hO fun k hk e => H.busApart hk (e.elim .inl fun e => .inr (.inr e))
 . have h1 : gN W3 tEv v' (x.es ++ [(x.ti, cause)]) := by
    unfold gN
    rw [List.length_append, List.flatMap_append]
    simpa [zN] using hown
   exact h1.keep fun g hg => hso.block g (h1.lt hg) (hne g hg)
theorem aBd {w : World} {b : Nat} {e : TypeId} {n m : Nat} {v : Value} {xs : List Value} (h : w.ownsRow b e n v (m + 1) xs) : ∃ g cap, v = .slice (some ⟨g, 0, none⟩) (m + 1) cap := by
 rcases gH h with ⟨_, h2⟩ | ⟨g, cap, h1, _⟩
 . omega
 . exact ⟨g, cap, h1⟩
theorem nN {P : Prop} (h : P := by
 refine AllReady.cons rfl (fun K hK => ?_) AllReady.nil
 go_simp
 refine hK _ _ ?_
 clear hK K
 refine wpAny_ready (rs := [14]) (by kernel_rfl) (by simp) ?_
 refine AllReady.cons rfl (fun K hK => ?_) AllReady.nil
 refine fJ rfl (.tmp 14) (.tmp 23) 119 rfl 0 156 i0 (.agg #[.int .u64 0, .int .i64 0]) 2 16 underlying119 HI.out HZ.out HZ1.out HZ2.out rfl (by decide) B.ev x.es.length (x.es.flatMap zN) rfl HEV.out ⟨w1.heap.size, 0, none⟩ 1 1 [.int .u64 x.ti, .int .i64 cause] rfl rfl HNV.out (aKV _ _) HMX.out HBY.out (Nat.zero_le _) ?_
 intro v' w3 hown3 hgr3 hnil3 hat3
 obtain ⟨g3, cap3, rfl⟩ := aBd hown3
 have hE3 := Hd (aJG H3.out HO3.out hown3 (aF.ofGrown hgr3 fun k e => e) (aMQ hat3))
 have hb3 := (aF.ofGrown (S := fun k => B.ev.ownBlock = some k) hgr3 fun k e => e).at H3.out.cells (fun e => (H3.out.evApart e).2 rfl)
 have hf3 := aK hb3 10
 have hc3 := aA hb3 10
 simp only [List.getElem?_toArray, List.getElem?_cons_zero, List.getElem?_cons_succ] at hc3
 clear hown3 hgr3 hnil3 hat3 hb3
 refine hK _ _ ?_
 clear hK K
 refine wpAny_take (i := 15) (v := .pointer (some ⟨B.b, 0, none⟩)) rfl (by kernel_rfl) (by kernel_rfl) (by kernel_rfl) (fun _ _ _ h => h) (Or.inl ⟨by kernel_rfl, fun w => by go_simp⟩) ?_
 refine wpAny_take (i := 16) (v := .pointer (some ⟨B.b, 10, none⟩)) rfl (by kernel_rfl) (by kernel_rfl) (by kernel_rfl) (fun _ _ _ h => h) (Or.inl ⟨by kernel_rfl, fun w => by go_simp⟩) ?_
 refine wpAny_ready (rs := [17]) (by kernel_rfl) (by simp) ?_
 refine AllReady.cons rfl (fun K hK => ?_) AllReady.nil
 go_simp
 refine hK _ _ ?_
 clear hK K
 refine wpAny_done (by kernel_rfl) ?_ _
 go_wp2_with fail
 go_end0
 exact hE3.out
 ) : P := h
theorem zI (B : Bp) (x : Bx) (h cause : Int) (w : World) (H : dG w B x h) (ok : x.ok B.n B.c) (hl : x.es.length < 4294967296) :
 Calls prog 61 #[.pointer (some ⟨B.b, 0, none⟩), .int .i64 cause] w (aDM B x h cause w) := by
 obtain ⟨i0, hi, hz0, hz1, hz2⟩ := info_parts aF9
 have hX := H.cells
 have hlb := lt_of_block hX
 have c0 := aA hX 0
 have c1 := aA hX 1
 have c2 := aA hX 2
 have c3 := aA hX 3
 have c4 := aA hX 4
 have c5 := aA hX 5
 simp only [y0q, y1q, y2q] at c0 c1 c2 c3 c4 c5
 have HI := Hd hi
 have HZ := Hd hz0
 have HZ1 := Hd hz1
 have HZ2 := Hd hz2
 have HH := Hd H
 have HOK := Hd ok
 have HMX := Hd (show x.es.length + 1 <= maxLen by unfold maxLen; omega)
 have HBY := Hd (show (x.es.length + 1) * 16 <= 140737488355328 by omega)
 clear hi hz0 hz1 hz2 hX H ok hl
 go_enter func61, ntmps61
 go_wp2_with fail
 refine (aNJ B x h cause w HH.out.dv HOK.out).mono ?_
 rintro e w1 ⟨rfl, d1, ho1⟩
 have H1 : dG w1 B { x.rst cause with es := x.es } h := HH.out.turn ⟨d1.c, d1.b, d1.d, d1.s, d1.r, d1.l⟩ ho1 rfl
 have hX1 := H1.cells
 have hl1 := lt_of_block hX1
 have hO1 := iN ho1
 clear c0 c1 c2 c3 c4 c5
 have c0 := aA hX1 0
 have c10 := aA hX1 10
 simp only [y0q, y1q, y2q] at c0 c10
 have HH1 := Hd H1
 have HO1 := Hd hO1
 have HT := Hd (show ∀ (u : World), bB u B { x.rst cause with es := x.es } h -> Calls prog 54 #[.pointer (some ⟨B.pc, 0, none⟩)] u fun e w' => e = .returned (.int .u64 x.ti) /\ u = w' from fun u A => aJ7 _ _ _ _ B.pc B.mc u A.c)
 have hW := aE (jQ (aH w1)) (.cells #[.int .u64 x.ti, .int .i64 cause] 156)
 have H3 := Hd (H1.below hW)
 have HEV := Hd (H1.below hW).ev
 have HO3 := Hd (hO1.trans (aF.ofBelow (S := B.own) hW))
 have HNV := Hd (aDS (aD w1.drew (.cells #[.int .u64 x.ti, .int .i64 cause] 156)))
 clear H1 hX1 hO1 d1 ho1 hlb hW
 have hc := Hd (enters_of func54 (by kernel_rfl) rfl)
 go_wp2_with fail
 refine wp_region_any (by kernel_rfl) ?_
 try (change wpAny _ _ _ _ _ _ _ (World.drew _))
 refine wpAny_take (i := 0) (v := .pointer (some ⟨B.b, 0, none⟩)) rfl (by kernel_rfl) (by kernel_rfl) (by kernel_rfl) (fun _ _ _ h => h) (Or.inl ⟨by kernel_rfl, fun w => by go_simp⟩) ?_
 refine wpAny_take (i := 1) (v := .pointer (some ⟨B.b, 0, none⟩)) rfl (by kernel_rfl) (by kernel_rfl) (by kernel_rfl) (fun _ _ _ h => h) (Or.inl ⟨by kernel_rfl, fun w => by go_simp⟩) ?_
 refine wpAny_take (i := 2) (v := .pointer (some ⟨B.b, 0, none⟩)) rfl (by kernel_rfl) (by kernel_rfl) (by kernel_rfl) (fun _ _ _ h => h) (Or.inl ⟨by kernel_rfl, fun w => by go_simp⟩) ?_
 refine wpAny_take (i := 3) (v := .pointer (some ⟨B.b, 10, none⟩)) rfl (by kernel_rfl) (by kernel_rfl) (by kernel_rfl) (fun _ _ _ h => h) (Or.inl ⟨by kernel_rfl, fun w => by go_simp⟩) ?_
 refine wpAny_take (i := 5) (v := .pointer (some ⟨B.b, 0, none⟩)) rfl (by kernel_rfl) (by kernel_rfl) (by kernel_rfl) (fun _ _ _ h => h) (Or.inl ⟨by kernel_rfl, fun w => by go_simp⟩) ?_
 refine wpAny_take (i := 6) (v := .pointer (some ⟨B.b, 0, none⟩)) rfl (by kernel_rfl) (by kernel_rfl) (by kernel_rfl) (fun _ _ _ h => h) (Or.inl ⟨by kernel_rfl, fun w => by go_simp⟩) ?_
 refine wpAny_take (i := 7) (v := .pointer (some ⟨B.b, 0, none⟩)) rfl (by kernel_rfl) (by kernel_rfl) (by kernel_rfl) (fun _ _ _ h => h) (Or.inl ⟨by kernel_rfl, fun w => by go_simp⟩) ?_
 refine wpAny_take (i := 8) (v := .pointer (some ⟨B.b, 0, none⟩)) rfl (by kernel_rfl) (by kernel_rfl) (by kernel_rfl) (fun _ _ _ h => h) (Or.inl ⟨by kernel_rfl, fun w => by go_simp⟩) ?_
 refine wpAny_take (i := 11) (v := .int .i64 cause) rfl (by kernel_rfl) (by kernel_rfl) (by kernel_rfl) (fun _ _ _ h => h) (Or.inl ⟨by kernel_rfl, fun w => by go_simp⟩) ?_
 refine wpAny_ready (rs := [4, 9]) (by kernel_rfl) (by simp) ?_
 refine AllReady.cons rfl (fun K hK => ?_) (AllReady.cons rfl (fun K hK => ?_) AllReady.nil)
 . go_simp
   refine hK _ _ ?_
   clear hK K
   refine wpAny_ready (rs := [9]) (by kernel_rfl) (by simp) ?_
   refine AllReady.cons rfl (fun K hK => ?_) AllReady.nil
   go_simp
   refine hK _ _ ?_
   clear hK K
   refine wpAny_ready (rs := [10]) (by kernel_rfl) (by simp) ?_
   refine AllReady.cons rfl (fun K hK => ?_) AllReady.nil
   go_simp
   go_wp2_with (go_at_call 54; refine (HT.out _ (HH1.out.dv.below (jQ (aH w1)))).mono ?_; rintro e w' ⟨rfl, rfl⟩)
   refine wpAny_take (i := 12) (v := .agg #[.int .u64 x.ti, .int .i64 cause]) rfl (by kernel_rfl) (by kernel_rfl) (by kernel_rfl) (fun _ _ _ h => h) (Or.inl ⟨by kernel_rfl, fun w => by go_simp⟩) ?_
   refine wpAny_ready (rs := [13]) (by kernel_rfl) (by simp) ?_
   exact nN
 . go_simp
   refine hK _ _ ?_
   clear hK K
   refine wpAny_ready (rs := [4, 10]) (by kernel_rfl) (by simp) ?_
   refine AllReady.cons rfl (fun K hK => ?_) (AllReady.cons rfl (fun K hK => ?_) AllReady.nil)
   . go_simp
     refine hK _ _ ?_
     clear hK K
     refine wpAny_ready (rs := [10]) (by kernel_rfl) (by simp) ?_
     refine AllReady.cons rfl (fun K hK => ?_) AllReady.nil
     go_simp
     go_wp2_with (go_at_call 54; refine (HT.out _ (HH1.out.dv.below (jQ (aH w1)))).mono ?_; rintro e w' ⟨rfl, rfl⟩)
     refine wpAny_take (i := 12) (v := .agg #[.int .u64 x.ti, .int .i64 cause]) rfl (by kernel_rfl) (by kernel_rfl) (by kernel_rfl) (fun _ _ _ h => h) (Or.inl ⟨by kernel_rfl, fun w => by go_simp⟩) ?_
     refine wpAny_ready (rs := [13]) (by kernel_rfl) (by simp) ?_
     exact nN
   . go_simp
     go_wp2_with (go_at_call 54; refine (HT.out _ (HH1.out.dv.below (jQ (aH w1)))).mono ?_; rintro e w' ⟨rfl, rfl⟩)
     refine wpAny_take (i := 12) (v := .agg #[.int .u64 x.ti, .int .i64 cause]) rfl (by kernel_rfl) (by kernel_rfl) (by kernel_rfl) (fun _ _ _ h => h) (Or.inl ⟨by kernel_rfl, fun w => by go_simp⟩) ?_
     refine wpAny_ready (rs := [4, 13]) (by kernel_rfl) (by simp) ?_
     refine AllReady.cons rfl (fun K hK => ?_) (AllReady.cons rfl (fun K hK => ?_) AllReady.nil)
     . go_simp
       refine hK _ _ ?_
       clear hK K
       refine wpAny_ready (rs := [13]) (by kernel_rfl) (by simp) ?_
       exact nN
     . go_simp
       refine hK _ _ ?_
       clear hK K
       refine wpAny_ready (rs := [4]) (by kernel_rfl) (by simp) ?_
       exact nN
theorem aCE (B : Bp) (x : Bx) (a : Int) (w : World) (H : aZ w B x) (a0 : 0 <= a) (a1 : a < 4294967296) :
 Calls prog 73 #[.pointer (some ⟨B.b, 0, none⟩), .int .u32 a] w fun e w' => e = .returned (.tuple #[.int .u32 (x.ldv B.n B.c a), .int .i64 (Bx.lde B.n B.c a)]) /\ Below w.heap.size w w' := by
 have hf0 := fB2
 have HH := Hd H
 have HN := Hd (kN B x w H)
 clear H
 go_enter func73, ntmps73
 go_wp2_with fail
 refine (HN.out).mono ?_
 rintro e w1 ⟨rfl, hb1⟩
 have HH1 := Hd (HH.out.below hb1)
 have HB1 := Hd hb1
 clear hb1
 go_wp2_with fail
 refine (aEG a HH1.out a0 a1).mono ?_
 rintro e w2 ⟨rfl, hb2⟩
 go_wp2_with fail
 go_ret2
 exact ⟨rfl, tr HB1.out hb2⟩
def kV (B : Bp) (y : Bx) (w w' : World) : Prop := ∃ ev', aZ w' { B with ev := ev' } y /\ aF B.own w w' /\ ∀ k, ev'.ownBlock = some k -> B.ev.ownBlock = some k \/ w.heap.size <= k
theorem aAD {B : Bp} {y : Bx} {w w' : World} (H : dG w' B y (wires B.n B.c y)) (ok : y.ok B.n B.c) (st : y.still) (ho : aF B.own w w') : kV B y w w' :=
 ⟨B.ev, H.done ok st, ho, fun k hk => .inl hk⟩
theorem aAC {B : Bp} {y : Bx} {ev' : Value} {w w' : World} (H : dG w' { B with ev := ev' } y (wires B.n B.c y)) (ok : y.ok B.n B.c) (st : y.still) (ho : aF B.own w w') (he : ∀ k, ev'.ownBlock = some k -> B.ev.ownBlock = some k \/ w.heap.size <= k) : kV B y w w' :=
 ⟨ev', H.done ok st, ho, he⟩
theorem aCF (B : Bp) (x : Bx) (a v : Int) (w : World) (H : aZ w B x) (a0 : 0 <= a) (a1 : a < 4294967296) (v0 : 0 <= v) (v1 : v < 4294967296) (hE : Bx.ste B.n B.c a ≠ 0) :
 Calls prog 26 #[.pointer (some ⟨B.b, 0, none⟩), .int .u32 a, .int .u32 v] w fun e w' => e = .returned (.int .i64 (Bx.ste B.n B.c a)) /\ kV B (x.sto B.n B.c a v) w w' := by
 have hf0 := fB2
 have HOK := Hd (Bx.put_ok (a := a) H.ok v0 v1)
 have HST := Hd (Bx.sto_ok (a := a) H.ok H.still v0 v1)
 have HP := Hd (Bx.put_err (n := B.n) (c := B.c) (x := x) (v := v) hE)
 have HS := Hd (show x.sto B.n B.c a v = x by unfold Bx.sto; rw [Bx.put_err hE, Bx.look_still H.still])
 generalize hg : Bx.ste B.n B.c a = E at *
 have HG := Hd hg
 have hE1 : (E != 0) = true := by simpa using hE
 clear hg
 have HH := Hd H
 have HN := Hd (kN B x w H)
 clear H
 go_enter func26, ntmps26
 go_wp2_with fail
 refine (HN.out).mono ?_
 rintro e w1 ⟨rfl, hb1⟩
 have HH1 := Hd (HH.out.below hb1)
 have HB1 := Hd (aF.ofBelow (S := B.own) hb1)
 clear hb1
 go_wp2_with fail
 refine (oY a v HH1.out a0 a1 v0 v1).mono ?_
 rw [HG.out]
 rintro e w2 ⟨rfl, ho2, d2⟩
 have HD := Hd d2
 have HO := Hd ho2
 clear d2 ho2
 go_wp2_with fail
 go_ret
 refine ⟨rfl, ?_⟩
 rw [HS.out]
 have d := HD.out
 rw [HP.out] at d
 exact aAD (HH1.out.raw.turn d HO.out rfl) HH1.out.ok HH1.out.still (HB1.out.trans (iN HO.out))
theorem rY {n c : Nat} (x : Bx) (a v : Int) : (x.put n c a v).es = x.es := by
 unfold Bx.put
 split <;> first | rfl | (split <;> rfl)
theorem zJ (B : Bp) (x : Bx) (a v : Int) (w : World) (H : aZ w B x) (a0 : 0 <= a) (a1 : a < 4294967296) (v0 : 0 <= v) (v1 : v < 4294967296) (hE : Bx.ste B.n B.c a = 0) (hD : (x.put B.n B.c a v).due = 0) :
 Calls prog 26 #[.pointer (some ⟨B.b, 0, none⟩), .int .u32 a, .int .u32 v] w fun e w' => e = .returned (.int .i64 (Bx.ste B.n B.c a)) /\ kV B (x.sto B.n B.c a v) w w' := by
 have hf0 := fB2
 have HOK := Hd (Bx.put_ok (a := a) H.ok v0 v1)
 have HST := Hd (Bx.sto_ok (a := a) H.ok H.still v0 v1)
 have HS := Hd (show x.sto B.n B.c a v = x.put B.n B.c a v by unfold Bx.sto Bx.look; rw [if_pos hD])
 have HDU := Hd hD
 have HE := Hd hE
 rw [hE]
 clear hD hE
 have HH := Hd H
 have HN := Hd (kN B x w H)
 clear H
 go_enter func26, ntmps26
 go_wp2_with fail
 refine (HN.out).mono ?_
 rintro e w1 ⟨rfl, hb1⟩
 have HH1 := Hd (HH.out.below hb1)
 have HB1 := Hd (aF.ofBelow (S := B.own) hb1)
 clear hb1
 go_wp2_with fail
 refine (oY a v HH1.out a0 a1 v0 v1).mono ?_
 rw [HE.out]
 rintro e w2 ⟨rfl, ho2, d2⟩
 have R2 := HH1.out.raw.turn d2 ho2 (rY x a v)
 have hX2 := R2.cells
 have c0 := aA hX2 0
 have c1 := aA hX2 1
 have c2 := aA hX2 2
 have c3 := aA hX2 3
 have c4 := aA hX2 4
 have c5 := aA hX2 5
 simp only [y0q, y1q, y2q] at c0 c1 c2 c3 c4 c5
 have hB2 := HB1.out.trans (iN ho2)
 have HR2 := Hd R2
 have HB2 := Hd hB2
 clear R2 hX2 hB2 d2 ho2
 go_wp2_with fail
 refine (aE4 B _ _ _ HR2.out.dv HOK.out).mono ?_
 rw [HDU.out]
 rintro e w3 ⟨rfl, hb3⟩
 have R3 := HR2.out.below hb3
 have hX3 := R3.cells
 have d0 := aA hX3 0
 have d1 := aA hX3 1
 have d2 := aA hX3 2
 have d3 := aA hX3 3
 have d4 := aA hX3 4
 have d5 := aA hX3 5
 simp only [y0q, y1q, y2q] at d0 d1 d2 d3 d4 d5
 have HR3 := Hd R3
 have HB3 := Hd (HB2.out.trans (aF.ofBelow (S := B.own) hb3))
 clear R3 hX3 hb3 c0 c1 c2 c3 c4 c5
 go_wp2_with fail
 refine (zD B _ _ _ HR3.out.dv HOK.out).mono ?_
 rintro e w4 ⟨rfl, d4, ho4⟩
 have HL := Hd (aAD (HR3.out.turn d4 ho4 rfl) (HS.out ▸ HST.out.1) (HS.out ▸ HST.out.2) (HB3.out.trans (iN ho4)))
 clear d4 ho4
 go_wp2_with fail
 go_ret
 refine ⟨rfl, ?_⟩
 rw [HS.out]
 exact HL.out
theorem aCG (B : Bp) (x : Bx) (a v : Int) (w : World) (H : aZ w B x) (a0 : 0 <= a) (a1 : a < 4294967296) (v0 : 0 <= v) (v1 : v < 4294967296) (hE : Bx.ste B.n B.c a = 0) (hD : (x.put B.n B.c a v).due ≠ 0) (hl : x.es.length < 4294967296) :
 Calls prog 26 #[.pointer (some ⟨B.b, 0, none⟩), .int .u32 a, .int .u32 v] w fun e w' => e = .returned (.int .i64 (Bx.ste B.n B.c a)) /\ kV B (x.sto B.n B.c a v) w w' := by
 have hf0 := fB2
 have HOK := Hd (Bx.put_ok (a := a) H.ok v0 v1)
 have HST := Hd (Bx.sto_ok (a := a) H.ok H.still v0 v1)
 have HS := Hd (show x.sto B.n B.c a v = (x.put B.n B.c a v).rst (x.put B.n B.c a v).due by unfold Bx.sto Bx.look; rw [if_neg hD])
 have HLE := Hd (show (x.put B.n B.c a v).es.length < 4294967296 by rw [rY]; exact hl)
 have HE := Hd hE
 rw [hE]
 generalize hdu : (x.put B.n B.c a v).due = du at *
 have hD1 : (du != 0) = true := by simpa using hD
 have HDU := Hd hdu
 clear hD hE hdu
 have HH := Hd H
 have HN := Hd (kN B x w H)
 clear H
 go_enter func26, ntmps26
 go_wp2_with fail
 refine (HN.out).mono ?_
 rintro e w1 ⟨rfl, hb1⟩
 have HH1 := Hd (HH.out.below hb1)
 have HB1 := Hd (aF.ofBelow (S := B.own) hb1)
 clear hb1
 go_wp2_with fail
 refine (oY a v HH1.out a0 a1 v0 v1).mono ?_
 rw [HE.out]
 rintro e w2 ⟨rfl, ho2, d2⟩
 have R2 := HH1.out.raw.turn d2 ho2 (rY x a v)
 have hX2 := R2.cells
 have c0 := aA hX2 0
 have c1 := aA hX2 1
 have c2 := aA hX2 2
 have c3 := aA hX2 3
 have c4 := aA hX2 4
 have c5 := aA hX2 5
 simp only [y0q, y1q, y2q] at c0 c1 c2 c3 c4 c5
 have hB2 := HB1.out.trans (iN ho2)
 have HR2 := Hd R2
 have HB2 := Hd hB2
 clear R2 hX2 hB2 d2 ho2
 go_wp2_with fail
 refine (aE4 B _ _ _ HR2.out.dv HOK.out).mono ?_
 rw [HDU.out]
 rintro e w3 ⟨rfl, hb3⟩
 have R3 := HR2.out.below hb3
 have hX3 := R3.cells
 have HR3 := Hd R3
 have HB3 := Hd (HB2.out.trans (aF.ofBelow (S := B.own) hb3))
 clear R3 hX3 hb3 c0 c1 c2 c3 c4 c5
 go_wp2_with fail
 refine (zI B _ _ du _ HR3.out HOK.out HLE.out).mono ?_
 rintro e w4 ⟨rfl, ev', R4, ho4, he4⟩
 have hX4 := R4.cells
 have d0 := aA hX4 0
 have d1 := aA hX4 1
 have d2 := aA hX4 2
 have d3 := aA hX4 3
 have d4 := aA hX4 4
 have d5 := aA hX4 5
 simp only [y0q, y1q, y2q] at d0 d1 d2 d3 d4 d5
 have HR4 := Hd R4
 have HB4 := Hd (HB3.out.trans ho4)
 have HE4 := Hd (show ∀ k, ev'.ownBlock = some k -> B.ev.ownBlock = some k \/ w.heap.size <= k from fun k hk => (he4 k hk).imp id fun h => Nat.le_trans HB3.out.size h)
 clear R4 hX4 ho4 he4
 go_wp2_with fail
 refine (zD { B with ev := ev' } _ _ _ HR4.out.dv (Bx.rst_ok HOK.out du)).mono ?_
 rintro e w5 ⟨rfl, d5, ho5⟩
 have HL := Hd (aAC (HR4.out.turn d5 ho5 rfl) (HS.out ▸ HST.out.1) (HS.out ▸ HST.out.2) (HB4.out.trans (iN (B := B) ho5)) HE4.out)
 clear d5 ho5
 go_wp2_with fail
 go_ret
 refine ⟨rfl, ?_⟩
 rw [HS.out]
 exact HL.out
theorem aIL (B : Bp) (x : Bx) (a v : Int) (w : World) (H : aZ w B x) (a0 : 0 <= a) (a1 : a < 4294967296) (v0 : 0 <= v) (v1 : v < 4294967296) (hl : x.es.length < 4294967296) :
 Calls prog 26 #[.pointer (some ⟨B.b, 0, none⟩), .int .u32 a, .int .u32 v] w fun e w' => e = .returned (.int .i64 (Bx.ste B.n B.c a)) /\ kV B (x.sto B.n B.c a v) w w' := by
 by_cases hE : Bx.ste B.n B.c a = 0
 . by_cases hD : (x.put B.n B.c a v).due = 0
   . exact zJ B x a v w H a0 a1 v0 v1 hE hD
   . exact aCG B x a v w H a0 a1 v0 v1 hE hD hl
 . exact aCF B x a v w H a0 a1 v0 v1 hE
section
variable {n c : Nat} {x : Bx}
end
theorem aAZ (x : Bx) (N : Int) : (x.tick N).es = x.es \/ (x.tick N).es = x.es ++ [((x.later N).ti, (x.later N).wd.fa)] := by
 unfold Bx.tick
 split
 . exact .inl rfl
 . exact .inr rfl
theorem aBk (x : Bx) (N : Int) : (x.tick N).es.length <= x.es.length + 1 := by
 rcases aAZ x N with h | h <;> rw [h] <;> simp
structure Pt where
 x : Bx
 gs : List Int
 md : Nat
 sp : Int
 se : Nat
def Pt.dn (p : Pt) : Bool := decide (p.se < p.x.es.length)
def Pt.gp (p : Pt) : Int := p.gs.getD (p.md % p.gs.length) 0
def Pt.pass (p : Pt) : Pt := { p with md := p.md + 1, sp := p.sp + p.gp, x := p.x.tick p.gp }
def Pt.bt (p : Pt) : Pt := { p with se := p.x.es.length }
def Pt.tk (p : Pt) (N : Int) : Pt := { p with x := p.x.tick N }
def Pt.ldp (p : Pt) : Pt := if p.dn = true then p else p.pass
def Pt.ldv (n c : Nat) (p : Pt) (a : Int) : Int := if p.dn = true then 0 else if p.pass.dn = true then 0 else p.pass.x.ldv n c a
def Pt.lde (n c : Nat) (p : Pt) (a : Int) : Int := if p.dn = true then 13 else if p.pass.dn = true then 13 else Bx.lde n c a
def Pt.put (n c : Nat) (p : Pt) (a v : Int) : Pt := { p with x := p.x.sto n c a v }
def Pt.stp (n c : Nat) (p : Pt) (a v : Int) : Pt := if p.dn = true then p else if p.pass.dn = true then p.pass else p.pass.put n c a v
def Pt.ste (n c : Nat) (p : Pt) (a v : Int) : Int := if p.dn = true then 13 else if p.pass.dn = true then 13 else if (p.pass.put n c a v).dn = true then 13 else Bx.ste n c a
def Bx.told (x : Bx) : Prop := x.rs.ct = x.es.length
theorem aBl {x : Bx} (h : x.told) {cause : Int} (hc : pY cause) (hl : x.es.length < 4294967295) : (x.rst cause).told := by
 unfold Bx.told at *
 show (x.rs.ltc cause).ct = ((x.es ++ [(x.ti, cause)]).length : Nat)
 unfold Rs.ltc
 rw [if_pos hc]
 show vK x.rs.ct = _
 unfold vK
 rw [h, if_pos (by omega)]
 simp
theorem yV {n c : Nat} {x : Bx} (h : x.told) (hs : x.still) (hl : x.es.length < 4294967295) (N : Int) : (x.tick N).told := by
 by_cases hf : (x.later N).wd.fa = 0
 . rw [Bx.tick_no hf]; exact h
 . rw [Bx.tick_yes hf]
   have e : (x.later N).wd.fa = 2 := kJ hs.1 hf
   have := aBl (x := x.later N) (show (x.later N).told from h) (cause := (x.later N).wd.fa) (by rw [e]; exact zT) hl
   exact this
theorem aMa {n c : Nat} (x : Bx) (a v : Int) : (x.put n c a v).rs.ct = x.rs.ct := by
 unfold Bx.put
 split <;> first | rfl | (split <;> rfl) | skip
 show (x.rs.sto _ _).ct = _
 unfold Rs.sto
 split
 . rfl
 . split <;> rfl
theorem aBm {n c : Nat} {x : Bx} (h : x.told) (hs : x.still) (hl : x.es.length < 4294967295) (a v : Int) : (x.sto n c a v).told := by
 have h1 : (x.put n c a v).told := by unfold Bx.told at *; rw [aMa, rY]; exact h
 unfold Bx.sto Bx.look
 by_cases hd : (x.put n c a v).due = 0
 . rw [if_pos hd]; exact h1
 . rw [if_neg hd]
   exact aBl h1 ((Bx.put_isC hs a v).resolve_left hd) (by rw [rY]; exact hl)
structure Pt.ok (m : Nat) (p : Pt) : Prop where
 td : p.x.told
 se : p.se <= p.x.es.length
 es : p.x.es.length <= m
 md : p.md <= m
 s0 : 0 <= p.sp
 s1 : p.sp <= p.md * 4294967295
 gl : p.gs.length <= 64
 gs : ∀ g ∈ p.gs, 0 <= g /\ g < 4294967296
section
variable {n c m : Nat} {p : Pt}
theorem Pt.ok.le (h : p.ok m) {k : Nat} (hk : m <= k) : p.ok k := ⟨h.td, h.se, Nat.le_trans h.es hk, Nat.le_trans h.md hk, h.s0, h.s1, h.gl, h.gs⟩
theorem Pt.gp_bounds (h : ∀ g ∈ p.gs, 0 <= g /\ g < 4294967296) : 0 <= p.gp /\ p.gp < 4294967296 := by
 unfold Pt.gp
 rw [List.getD_eq_getElem?_getD]
 cases e : p.gs[p.md % p.gs.length]? with
 | none => exact ⟨Int.le_refl _, by decide⟩
 | some g => exact h g (List.mem_of_getElem? e)
theorem Pt.gp_get {i : Nat} {g : Int} (hi : p.md % p.gs.length = i) (h : p.gs[i]? = some g) : p.gp = g := by
 unfold Pt.gp
 rw [hi, List.getD_eq_getElem?_getD, h]
 rfl
theorem Pt.gp_nil (h : p.gs.length = 0) : p.gp = 0 := by
 unfold Pt.gp
 rw [List.length_eq_zero_iff.1 h]
 rfl
theorem Pt.up (h : p.dn = false) : p.x.es.length <= p.se := by unfold Pt.dn at h; simpa using h
theorem Pt.pass_ok (h : p.ok m) (hs : p.x.still) (hm : m < 4294967290) : p.pass.ok (m + 1) := by
 have hg := Pt.gp_bounds h.gs
 have hl := aBk p.x p.gp
 have h0 := h.se
 have h1 := h.es
 have h2 := h.s0
 have h3 := h.s1
 have h4 := h.md
 refine ⟨yV (n := 0) (c := 0) h.td hs (by omega) _, ?_, ?_, ?_, ?_, ?_, h.gl, h.gs⟩
 . show p.se <= (p.x.tick p.gp).es.length
   rcases aAZ p.x p.gp with e | e <;> rw [e]
   . exact h0
   . simp; omega
 . show (p.x.tick p.gp).es.length <= m + 1
   omega
 . show p.md + 1 <= m + 1
   omega
 . show 0 <= p.sp + p.gp
   omega
 . show p.sp + p.gp <= ((p.md + 1 : Nat) : Int) * 4294967295
   omega
theorem Pt.tk_ok (h : p.ok m) (hs : p.x.still) (hm : m < 4294967290) (N : Int) : (p.tk N).ok (m + 1) := by
 have hl := aBk p.x N
 have h0 := h.se
 have h1 := h.es
 refine ⟨yV (n := 0) (c := 0) h.td hs (by omega) _, ?_, ?_, Nat.le_succ_of_le h.md, h.s0, h.s1, h.gl, h.gs⟩
 . show p.se <= (p.x.tick N).es.length
   rcases aAZ p.x N with e | e <;> rw [e]
   . exact h0
   . simp; omega
 . show (p.x.tick N).es.length <= m + 1
   omega
theorem Pt.bt_ok (h : p.ok m) : p.bt.ok m := ⟨h.td, Nat.le_refl _, h.es, h.md, h.s0, h.s1, h.gl, h.gs⟩
theorem aHg {n c : Nat} (x : Bx) (a v : Int) : ∃ l, (x.sto n c a v).es = x.es ++ l /\ l.length <= 1 := by
 have hp := rY (n := n) (c := c) x a v
 unfold Bx.sto Bx.look
 split
 . exact ⟨[], by rw [hp]; simp, by simp⟩
 . exact ⟨[_], by show (x.put n c a v).es ++ [_] = _; rw [hp], by simp⟩
theorem Pt.put_ok (h : p.ok m) (hs : p.x.still) (hm : m < 4294967290) (a v : Int) : (p.put n c a v).ok (m + 1) := by
 have h0 := h.se
 have h1 := h.es
 obtain ⟨l, e, hl⟩ := aHg (n := n) (c := c) p.x a v
 refine ⟨aBm h.td hs (by omega) a v, ?_, ?_, Nat.le_succ_of_le h.md, h.s0, h.s1, h.gl, h.gs⟩
 . show p.se <= (p.x.sto n c a v).es.length
   rw [e]; simp; omega
 . show (p.x.sto n c a v).es.length <= m + 1
   rw [e]; simp; omega
theorem Pt.passed_ok (h : p.ok m) (hs : p.x.still) (hm : m < 4294967290) (hd : p.dn = false) (he : p.pass.dn = false) : p.pass.x.es.length <= m := by
 have h1 := Pt.up he
 have h2 := h.se
 have h3 := h.es
 have h4 : p.pass.se = p.se := rfl
 omega
theorem Pt.stored_ok (h : p.ok m) (hs : p.x.still) (hs2 : p.pass.x.still) (hm : m < 4294967290) (hd : p.dn = false) (he : p.pass.dn = false) (a v : Int) : (p.pass.put n c a v).ok (m + 1) := by
 have h1 := Pt.passed_ok h hs hm hd he
 have h2 := Pt.pass_ok h hs hm
 obtain ⟨l, e, hl⟩ := aHg (n := n) (c := c) p.pass.x a v
 have h5 := h2.se
 refine ⟨aBm h2.td hs2 (by omega) a v, ?_, ?_, h2.md, h2.s0, h2.s1, h2.gl, h2.gs⟩
 . show p.pass.se <= (p.pass.x.sto n c a v).es.length
   rw [e]; simp; omega
 . show (p.pass.x.sto n c a v).es.length <= m + 1
   rw [e]; simp; omega
theorem Pt.ldp_ok (h : p.ok m) (hs : p.x.still) (hm : m < 4294967290) : p.ldp.ok (m + 1) := by
 unfold Pt.ldp
 split
 . exact h.le (Nat.le_succ _)
 . exact Pt.pass_ok h hs hm
theorem Pt.stp_ok (h : p.ok m) (hs : p.x.still) (hs2 : p.pass.x.still) (hm : m < 4294967290) (a v : Int) : (p.stp n c a v).ok (m + 1) := by
 unfold Pt.stp
 by_cases hd : p.dn = true
 . rw [if_pos hd]; exact h.le (Nat.le_succ _)
 . rw [if_neg hd]
   by_cases he : p.pass.dn = true
   . rw [if_pos he]; exact Pt.pass_ok h hs hm
   . rw [if_neg he]
     exact Pt.stored_ok h hs hs2 hm (by simpa using hd) (by simpa using he) a v
end
structure Rd where
 p : Pt
 v : Int
 e : Int
def Pt.rds (n c : Nat) : Nat -> Pt -> Int -> Rd
 | 0, p, f => ⟨p, cZ f 0, 0⟩
 | k + 1, p, f => if p.lde n c 33603576 = 0 then (if p.ldp.lde n c 33603580 = 0 then (if f = p.ldp.ldv n c 33603580 then ⟨p.ldp.ldp, cZ f (p.ldv n c 33603576), 0⟩ else p.ldp.ldp.rds n c k (p.ldp.ldv n c 33603580)) else ⟨p.ldp.ldp, 0, p.ldp.lde n c 33603580⟩)
   else ⟨p.ldp, 0, p.lde n c 33603576⟩
def Pt.rd (n c : Nat) (p : Pt) : Rd := if p.lde n c 33603580 = 0 then p.ldp.rds n c 4 (p.ldv n c 33603580) else ⟨p.ldp, 0, p.lde n c 33603580⟩
section
variable {n c m : Nat} {p : Pt} {x : Bx}
theorem fZ {t : Int} (h0 : 0 <= t) (h1 : t < 18446744073709551616) : 0 <= hi t /\ hi t < 4294967296 := ⟨kA h0, yC h1⟩
structure qR (p : Pt) : Prop where
 wd : p.x.wd = wz
 up : p.dn = false
theorem sE {x : Bx} (h : x.wd = wz) (N : Int) : x.tick N = { x.on N with wd := wz } := by
 have e : (x.later N).wd.fa = 0 := by show (x.wd.tick N).fa = 0; rw [h]; rfl
 rw [Bx.tick_no e]
 show ({ x.on (x.wd.ran N) with wd := x.wd.tick N } : Bx) = _
 rw [h]
 rfl
theorem aIF {a b : Int} (h : a < 18446744073709551616) (hb : 0 <= b) : a <= eF a b := by unfold eF; split <;> omega
theorem qR.step (h : qR p) (ok : p.x.ok n c) (hg : ∀ g ∈ p.gs, 0 <= g /\ g < 4294967296) : qR p.ldp /\ p.x.ti <= p.ldp.x.ti /\ p.ldp.md = p.md + 1 /\ p.ldp.x.es = p.x.es /\ p.ldp.se = p.se := by
 have e : p.ldp = p.pass := by unfold Pt.ldp; rw [if_neg (by simp [h.up])]
 have et := sE h.wd p.gp
 have hu := h.up
 rw [e]
 refine ⟨⟨?_, ?_⟩, ?_, rfl, ?_, rfl⟩
 . show (p.x.tick p.gp).wd = wz
   rw [et]
 . unfold Pt.dn at *
   show decide (p.se < (p.x.tick p.gp).es.length) = false
   rw [et]
   exact hu
 . show p.x.ti <= (p.x.tick p.gp).ti
   rw [et]
   exact aIF ok.t1 (Pt.gp_bounds hg).1
 . show (p.x.tick p.gp).es = p.x.es
   rw [et]
   rfl
end
end Go.Proofs.YtaohacadochldaaGreat.B
