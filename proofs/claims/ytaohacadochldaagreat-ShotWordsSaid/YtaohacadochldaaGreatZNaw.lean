/- A part of the proof of a law of layer 12: aw. -/
import Derived.Test.YtaohacadochldaaGreatZNav
import Derived.Laws.CopyOwn
set_option linter.unusedVariables false
set_option linter.unusedSimpArgs false
set_option maxHeartbeats 12800000
set_option maxRecDepth 100000
namespace Go.Proofs.YtaohacadochldaaGreat.B
open Go.Proofs.Tryz
open Go.ChangeShapes Go.WideShapes Go.RowKit Go.Sort
abbrev tPt : TypeId := 108
abbrev tCo : TypeId := 106
abbrev tU : TypeId := 26
abbrev tG : TypeId := 191
def gK (m : Nat) : Bool := m == tU + 1 || m == tG + 1
def kK (s : Nat) (w : World) (v : Value) (gs : List Int) : Prop := ∃ y cap, v = .slice y gs.length cap /\ gs.length <= cap /\ cap <= maxLen /\
 (gs.length = 0 \/ ∃ b off, y = some ⟨b, off, none⟩ /\ b < w.heap.size /\ (b < s \/ gK (kd w b) = true) /\ ∀ i g, gs[i]? = some g -> w.cell? ⟨b, off + i, none⟩ = some (.int .u32 g))
section
variable {s : Nat} {w w' : World} {v : Value} {gs : List Int}
theorem kK.one (h : kK s w v gs) : v.oneCell' = true := by obtain ⟨y, cap, rfl, _⟩ := h; rfl
theorem kK.keep (h : kK s w v gs) (hs : w.heap.size <= w'.heap.size) (hk : ∀ k, k < w.heap.size -> (k < s \/ gK (kd w k) = true) -> w'.heap[k]? = w.heap[k]?) : kK s w' v gs := by
 obtain ⟨y, cap, rfl, h1, h2, h3⟩ := h
 refine ⟨y, cap, rfl, h1, h2, h3.imp id ?_⟩
 rintro ⟨b, off, rfl, hb, hg, hc⟩
 have e := hk b hb hg
 refine ⟨b, off, rfl, Nat.lt_of_lt_of_le hb hs, hg.imp id fun hg => by rw [zY e]; exact hg, fun i g hi => ?_⟩
 rw [<- hc i g hi]
 simp only [World.cell?, e]
theorem kK.below (h : kK s w v gs) (hb : Below w.heap.size w w') : kK s w' v gs := h.keep hb.size fun k hk _ => hb.block k hk
theorem kK.off {S : Nat -> Prop} (h : kK s w v gs) (ho : aD S w w') (hS : ∀ k, k < w.heap.size -> (k < s \/ gK (kd w k) = true) -> ¬ S k) : kK s w' v gs := h.keep ho.size fun k hk hg => ho.block k hk (hS k hk hg)
theorem mV {m : Nat} (h : gK m = true) : nL m = false /\ aAz m = false /\ m ≠ tPt + 1 := by
 unfold gK at h
 simp only [Bool.or_eq_true, beq_iff_eq] at h
 rcases h with rfl | rfl <;> exact ⟨by decide, by decide, by decide⟩
theorem kK.kp (h : kK s w v gs) (K : Kp w w') (lo : Below s w w') : kK s w' v gs := h.keep lo.size fun k hk hg => by
 rcases hg with hg | hg
 . exact lo.block k hg
 . unfold kd at hg
   cases e : w.heap[k]? with
   | none => rw [e] at hg; exact absurd (show gK 0 = true from hg) (by decide)
   | some o =>
     rw [e] at hg
     cases o with
     | cells cs T f => exact K k cs T f e (mV hg).1
     | _ => exact absurd (show gK 0 = true from hg) (by decide)
end
def pcl (p : Pt) (b : Nat) (gv : Value) : List Value := [.int .i64 p.md, .int .u64 p.sp, .int .u32 p.se, .pointer (some ⟨b, 0, none⟩), gv]
structure bB (w : World) (q : Nat) (B : Bp) (p : Pt) (gv : Value) : Prop where
 cell : w.heap[q]? = some (.cells (pcl p B.b gv).toArray tPt (0, 0))
 bd : aS w B p.x
 g : kK 0 w gv p.gs
section
variable {w w' : World} {q : Nat} {B : Bp} {p : Pt} {gv : Value}
theorem bB.lt (H : bB w q B p gv) : q < w.heap.size := lt_of_block H.cell
theorem bB.below (H : bB w q B p gv) (hb : Below w.heap.size w w') : bB w' q B p gv := ⟨aB hb H.cell H.lt, H.bd.below hb, H.g.below hb⟩
theorem bB.free (H : bB w q B p gv) (j : Nat) : w.frozen? ⟨q, j, none⟩ = false := aH H.cell j
theorem bB.c0 (H : bB w q B p gv) : w.cell? ⟨q, 0, none⟩ = some (.int .i64 p.md) := by rw [aA H.cell 0]; rfl
theorem bB.c1 (H : bB w q B p gv) : w.cell? ⟨q, 1, none⟩ = some (.int .u64 p.sp) := by rw [aA H.cell 1]; rfl
theorem bB.c2 (H : bB w q B p gv) : w.cell? ⟨q, 2, none⟩ = some (.int .u32 p.se) := by rw [aA H.cell 2]; rfl
theorem bB.c3 (H : bB w q B p gv) : w.cell? ⟨q, 3, none⟩ = some (.pointer (some ⟨B.b, 0, none⟩)) := by rw [aA H.cell 3]; rfl
theorem bB.c4 (H : bB w q B p gv) : w.cell? ⟨q, 4, none⟩ = some gv := by rw [aA H.cell 4]; rfl
theorem bB.noB (H : bB w q B p gv) : ¬ B.all q := fun h => by have := H.bd.allKd h; rw [bA H.cell] at this; revert this; decide
theorem bB.noO (H : bB w q B p gv) : ¬ B.own q := fun h => H.noB (.inl h)
theorem kK.noO {s : Nat} {v : Value} {gs : List Int} (H : aS w B p.x) {k : Nat} (hk : gK (kd w k) = true) : ¬ B.all k := fun h => by have := H.allKd h; rw [(mV hk).2.1] at this; cases this
theorem bB.noG (H : bB w q B p gv) {k : Nat} (hk : gK (kd w k) = true) : k ≠ q := fun e => by rw [e, bA H.cell] at hk; revert hk; decide
end
theorem tJ {n c : Nat} (x : Bx) (h : x.told) : x.ldv n c 268632068 = (x.es.length : Int) /\ Bx.lde n c 268632068 = 0 := by
 have e : wh 268632068 = .rs 4 := by unfold wh; rw [if_neg (by decide), if_neg (by decide), if_neg (by decide), if_neg (by decide), if_pos (by decide)]; rfl
 unfold Bx.ldv Bx.lde
 rw [e]
 constructor
 . show jZ x.rs 4 = _
   rw [<- h]
   rfl
 . rfl
theorem aAF (B : Bp) (x : Bx) (w : World) (H : aS w B x) (ht : x.told) :
 Calls prog 63 #[.pointer (some ⟨B.b, 0, none⟩)] w fun e w' => e = .returned (.int .u32 x.es.length) /\ Below w.heap.size w w' := by
 have HL := Hd (aA3 B x 268632068 w H (by decide) (by decide))
 have hc := tJ (n := B.n) (c := B.c) x ht
 rw [hc.1, hc.2] at HL
 clear hc ht H
 go_enter func63, ntmps63
 go_wp2_with (go_at_call 73; refine (HL.out).mono ?_; rintro e w1 ⟨rfl, hb1⟩)
 go_ret
 exact ⟨rfl, hb1⟩
theorem xN (mk sp se t M : Int) (w : World) (hM : max se t = M) :
 Calls prog 74 #[.agg #[.int .i64 mk, .int .u64 sp, .int .u32 se], .int .u32 t] w fun e w' => e = .returned (.agg #[.int .i64 mk, .int .u64 sp, .int .u32 M]) /\ Below w.heap.size w w' := by
 subst hM
 have hb := aO (aO (aT w) (.cells #[.int .i64 mk, .int .u64 sp, .int .u32 (max se t)] tCo (0, 0))) (.cells #[.int .i64 mk, .int .u64 sp, .int .u32 (max se t)] tCo (0, 0))
 go_enter func74, ntmps74
 go_wp2_with fail
 refine bodyPost_ret (v := .agg #[.int .i64 mk, .int .u64 sp, .int .u32 (max se t)]) ?_ rfl ⟨rfl, hb⟩
 simp [results, results74, go_sem]
section
variable {ops : Array Oper} {rest : List Oper} {o : Oper} {a : Act} {w : World} {Q : Exit -> Act -> World -> Prop}
end
theorem lF {P : Prop} (h : P := by
 rw [hd]
 clear hd H ht hse h
 go_enter func47, ntmps47
 go_upto_region 1 with (fail)
 refine wp_region_quiet_below (by kernel_rfl) (by kernel_rfl) ?_
 repeat (go_big_quiet_step (first
  | (go_at_call 63; exact Calls.regrown_of (HR.out _ (HH.out.bd.below (below_regrown w _ _))))
  | (go_at_call 74; exact Calls.regrown_of (HA.out _))))
 refine wpQuiet_nil ?_
 intro _ hw'
 obtain ⟨⟨dq, osq⟩, hw''⟩ := hw'
 subst hw''
 go_wp2_with fail
 go_ret
 exact ⟨rfl, below_regrown w _ _⟩
 ) : P := h
theorem mE (q : Nat) (B : Bp) (p : Pt) (gv : Value) (w : World) (H : bB w q B p gv) (ht : p.x.told) (hse : p.se <= p.x.es.length) :
 Calls prog 47 #[.pointer (some ⟨q, 0, none⟩)] w fun e w' => e = .returned (.bool p.dn) /\ Below w.heap.size w w' := by
 have HR := Hd (show ∀ w', aS w' B p.x -> _ from fun w' h => aAF B p.x w' h ht)
 have HH := Hd H
 have c0 := H.c0
 have c1 := H.c1
 have c2 := H.c2
 have c3 := H.c3
 have hq := H.lt
 have hg := bP
 have s0 := nP (p.md : Int)
 have s1 := nP p.sp
 by_cases h : p.se < p.x.es.length
 . have HA := Hd (fun w' => xN p.md p.sp p.se p.x.es.length p.x.es.length w' (by omega))
   have hd : p.dn = true := by unfold Pt.dn; exact decide_eq_true h
   have hne : ((p.se : Int) == (p.x.es.length : Int)) = false := by simp; omega
   exact lF
 . have HA := Hd (fun w' => xN p.md p.sp p.se p.x.es.length p.se w' (by omega))
   have hd : p.dn = false := by unfold Pt.dn; exact decide_eq_false h
   have s2 := nP (p.se : Int)
   exact lF
theorem bB.set {w : World} {q : Nat} {B : Bp} {p : Pt} {gv : Value} (H : bB w q B p gv) (j : Nat) (v : Value) (p' : Pt) (hx : p'.x = p.x) (hg : p'.gs = p.gs) (he : (pcl p B.b gv).set j v = pcl p' B.b gv) : bB (w.setCell ⟨q, j, none⟩ v) q B p' gv := by
 refine ⟨?_, hx ▸ H.bd.off (aG w q j v) fun k hk e => H.noB (e ▸ hk), hg ▸ H.g.off (aG w q j v) fun k _ hk e => ?_⟩
 . rw [aK H.cell, sE, he]
 . rcases hk with hk | hk
   . omega
   . exact H.noG hk e
def aY (q : Nat) (B : Bp) (p : Pt) (gv : Value) (w w' : World) : Prop := ∃ ev', bB w' q { B with ev := ev' } p gv /\ aD (fun k => k = q \/ B.own k) w w' /\ ∀ k, ev'.ownBlock = some k -> B.ev.ownBlock = some k \/ w.heap.size <= k
section
variable {w w' w'' : World} {q : Nat} {B : Bp} {p p2 : Pt} {gv gv2 : Value}
theorem bB.left (H : bB w q B p gv) (hb : Below w.heap.size w w') : aY q B p gv w w' := ⟨B.ev, H.below hb, aD.ofBelow hb, fun k hk => .inl hk⟩
theorem aY.from (ho : aD (fun k => k = q \/ B.own k) w w') (L : aY q B p gv w' w'') : aY q B p gv w w'' := by
 obtain ⟨ev', h, ho2, he⟩ := L
 exact ⟨ev', h, ho.trans ho2, fun k hk => (he k hk).imp id fun h => Nat.le_trans ho.size h⟩
theorem aY.below (L : aY q B p gv w w') (hb : Below w'.heap.size w' w'') : aY q B p gv w w'' := by
 obtain ⟨ev', h, ho, he⟩ := L
 exact ⟨ev', h.below hb, ho.trans (aD.ofBelow hb), he⟩
theorem aY.andThen {ev1 : Value} (ho : aD (fun k => k = q \/ B.own k) w w') (he1 : ∀ k, ev1.ownBlock = some k -> B.ev.ownBlock = some k \/ w.heap.size <= k) (L : aY q { B with ev := ev1 } p gv w' w'') : aY q B p gv w w'' := by
 obtain ⟨ev', h, ho2, he⟩ := L
 refine ⟨ev', h, ho.next ho2 ?_, fun k hk => ?_⟩
 . rintro i hi (hq | h1 | h1 | h1)
   . exact .inl hq
   . exact .inr (.inl h1)
   . exact .inr (.inr (.inl h1))
   . rcases he1 i h1 with h2 | h2
     . exact .inr (.inr (.inr h2))
     . omega
 . rcases he k hk with h1 | h1
   . exact he1 k h1
   . exact .inr (Nat.le_trans ho.size h1)
theorem bB.board {y : Bx} (H : bB w q B p gv) (L : dG B y w w') : aY q B { p with x := y } gv w w' := by
 have K := L.kp H.bd
 obtain ⟨ev', h, ho, he⟩ := L
 refine ⟨ev', ⟨ho.at H.cell H.noO, h, H.g.off ho fun k _ hk hS => ?_⟩, ho.mono fun k _ hk => .inr hk, he⟩
 rcases hk with hk | hk
 . omega
 . have := H.bd.ownKd hS; rw [(mV hk).1] at this; cases this
end
theorem aAf (k : Nat) (h : k < 4294967296) : IntKind.i64.wrap ((k : Int) + 1) = (k : Int) + 1 := by rw [IntKind.wrap_i64]; omega
theorem lH {P : Prop} (h : P := by
 refine wpQuiet_nil ?_
 intro _ hw'
 obtain ⟨⟨dq, osq⟩, hw''⟩ := hw'
 subst hw''
 go_wp2_with fail
 go_ret
 exact ⟨rfl, below_regrown w _ _⟩
 ) : P := h
theorem aDt (q : Nat) (B : Bp) (p : Pt) (gv : Value) (w : World) (H : bB w q B p gv) (hg : ∀ g ∈ p.gs, 0 <= g /\ g < 4294967296) :
 Calls prog 194 #[.pointer (some ⟨q, 0, none⟩)] w fun e w' => e = .returned (.int .u64 p.gp) /\ Below w.heap.size w w' := by
 obtain ⟨y, cap, rfl, h1, h2, h3⟩ := H.g
 have c0 := H.c0
 have c4 := H.c4
 have hq := H.lt
 by_cases hN : p.gs.length = 0
 . rw [Pt.gp_nil hN]
   rw [hN] at c4
   clear H h1 h2 h3 hg
   go_enter func194, ntmps194
   go_wp2_with fail
   go_ret
   exact ⟨rfl, aT _⟩
 . obtain ⟨b, off, rfl, hb, _, hc⟩ := h3.resolve_left hN
   obtain ⟨i, hi⟩ : ∃ i, p.md % p.gs.length = i := ⟨_, rfl⟩
   have hil : i < p.gs.length := by rw [<- hi]; exact Nat.mod_lt _ (by omega)
   obtain ⟨g, hgi⟩ : ∃ g, p.gs[i]? = some g := ⟨_, List.getElem?_eq_getElem hil⟩
   have hgb := hg g (List.mem_of_getElem? hgi)
   rw [Pt.gp_get hi hgi]
   have ci := hc i g hgi
   have hrem : (p.md : Int).tmod (p.gs.length : Int) = (i : Int) := by rw [<- hi, Int.tmod_eq_emod_of_nonneg (by omega)]; omega
   generalize p.gs.length = N at *
   have hne : ((N : Int) == 0) = false := by simp; omega
   have hgc := bP
   clear H h3 hg hc hi hgi
   go_enter func194, ntmps194
   go_upto_region 3 with (fail)
   refine wp_region_quiet_below (by kernel_rfl) (by kernel_rfl) ?_
   repeat (go_big_quiet_step (fail))
   exact lH
theorem aAo (q : Nat) (B : Bp) (p : Pt) (gv : Value) (m : Nat) (w : World) (H : bB w q B p gv) (ok : p.ok m) (hm : m < 4294967290) :
 Calls prog 120 #[.pointer (some ⟨q, 0, none⟩)] w fun e w' => e = .returned (.tuple #[]) /\ aY q B p.pass gv w w' := by
 have hgb := Pt.gp_bounds ok.gs
 have HG := Hd (fun w' h => aDt q B p gv w' h ok.gs)
 have HH := Hd H
 have hmd := ok.md
 have hs0 := ok.s0
 have hs1 := ok.s1
 have hel : p.x.es.length < 4294967296 := by have := ok.es; omega
 have hw1 : IntKind.i64.wrap ((p.md : Int) + 1) = ((p.md : Int) + 1) := aAf p.md (by omega)
 have hw2 : IntKind.u64.wrap (p.sp + p.gp) = p.sp + p.gp := IntWalk.u64_in _ (by omega)
 have HPP := Hd (show p.pass = { p with md := p.md + 1, sp := p.sp + p.gp, x := p.x.tick p.gp } from rfl)
 have HEL := Hd hel
 have HGB := Hd hgb
 clear H ok hm hmd hs0 hs1 hel hgb
 generalize p.gp = g at *
 go_enter func120, ntmps120
 go_wp2_with fail
 refine (HG.out _ HH.out).mono ?_
 rintro e w1 ⟨rfl, hb⟩
 have HH1 := Hd (HH.out.below hb)
 have HO := Hd (aD.ofBelow (S := fun k => k = q \/ B.own k) hb)
 have c0 := HH1.out.c0
 have c1 := HH1.out.c1
 have c3 := HH1.out.c3
 have f0 := HH1.out.free 0
 have f1 := HH1.out.free 1
 have hq := HH1.out.lt
 clear hb HG HH
 go_upto_region 3 with (fail)
 have H2 := (HH1.out.set 0 (.int .i64 ((p.md : Int) + 1)) { p with md := p.md + 1 } rfl rfl rfl).set 1 (.int .u64 (p.sp + g)) { p with md := p.md + 1, sp := p.sp + g } rfl rfl rfl
 have O2 := (HO.out.trans (aD.ofSetCell w1 ⟨q, 0, none⟩ (.int .i64 ((p.md : Int) + 1)) (.inl rfl))).trans (aD.ofSetCell (S := fun k => k = q \/ B.own k) (w1.setCell ⟨q, 0, none⟩ (.int .i64 ((p.md : Int) + 1))) ⟨q, 1, none⟩ (.int .u64 (p.sp + g)) (.inl rfl))
 clear c0 c1 c3 f0 f1 hq HH1 HO hw1 hw2
 generalize (w1.setCell ⟨q, 0, none⟩ (.int .i64 ((p.md : Int) + 1))).setCell ⟨q, 1, none⟩ (.int .u64 (p.sp + g)) = W at *
 have HH2 := Hd H2
 have HO2 := Hd O2
 have c3 := H2.c3
 clear H2 O2
 go_wp2_with fail
 refine (aA4 B p.x g _ HH2.out.bd HGB.out.1 (by have := HGB.out.2; omega) HEL.out).mono ?_
 rintro e w2 ⟨rfl, hL⟩
 have HX := Hd (aY.from HO2.out (HH2.out.board hL))
 clear c3 hL
 go_wp2_with fail
 go_end0
 exact ⟨rfl, by rw [HPP.out]; exact HX.out⟩
theorem kK.own {s : Nat} {w : World} {v : Value} {gs : List Int} (h : kK s w v gs) : ∃ y len cap, v = .slice y len cap := by obtain ⟨y, cap, rfl, _⟩ := h; exact ⟨_, _, _, rfl⟩
def sJ (md : Region.Mode) (ops : Array Oper) (n : Nat) : Bool :=
 (List.range ops.size).all fun t => decide (t <= n) || (List.range t).any fun j => decide (n <= j) && Region.waitsFor md ops t j
def xQ (ops : Array Oper) (k : Nat) : Bool :=
 match ops[k]? with
 | some o => o.guard.isNone && (match o.op with | .move _ | .assign _ | .extract _ _ => true | _ => false)
 | none => false
def tO (md : Region.Mode) (ops : Array Oper) : Nat -> Nat -> Array Bool -> Bool
 | 0, _, done => (Region.ready md ops done).isEmpty
 | g + 1, k, done => (decide (Region.ready md ops done = [k]) || ((Region.ready md ops done).contains k && Region.free md ops done k && xQ ops k)) && tO md ops g (k + 1) (done.setIfInBounds k true)
def jQ (md : Region.Mode) (ops : Array Oper) (g : Nat) : Nat -> Nat -> Array Bool -> Bool
 | 0, k, done => (Region.ready md ops done).all (fun j => decide (k <= j)) && tO md ops g k done
 | f + 1, k, done => (Region.ready md ops done).contains k && Region.free md ops done k && jQ md ops g f (k + 1) (done.setIfInBounds k true)
def nH (md : Region.Mode) (ops : Array Oper) (n : Nat) : Bool :=
 Region.noSelect ops && decide (n < ops.size) && Region.sinkB md ops n && sJ md ops n && jQ md ops (ops.size - n) n 0 (Array.replicate ops.size false)
section
variable {P : Program} {ops : Array Oper} {md : Region.Mode} {C : World -> Prop}
theorem rE {n : Nat} {listed : Array Bool} (hs : Region.sinkB md ops n = true) (hc : sJ md ops n = true) (hn : n < ops.size) (inv : HeadInv md ops n listed) :
 ∀ (d i : Nat), n - i = d -> i < n -> listed.getD i true = false -> ∀ t, n <= t -> t ∉ Region.ready md ops listed := by
 intro d
 induction d using Nat.strongRecOn with
 | _ d ih =>
   intro i hd hi hun t ht hr
   obtain ⟨_, ot, hot, hall⟩ := mem_ready.1 hr
   have htlt : t < ops.size := (Array.getElem?_eq_some_iff.1 hot).1
   by_cases htn : t = n
   . subst htn
     have h1 := List.all_eq_true.1 hs i (List.mem_range.2 hi)
     obtain ⟨j, hj, hj2⟩ := List.any_eq_true.1 h1
     simp only [Bool.and_eq_true, decide_eq_true_eq] at hj2
     obtain ⟨oj, hoj, e, he, hb, hon⟩ := Region.waitsFor_spec hj2.2
     have hjle : j <= t := by have := List.mem_range.1 hj; omega
     by_cases hjt : j = t
     . subst hjt
       have : oj = ot := Option.some.inj (hoj.symm.trans hot)
       subst this
       have h2 := hall e he hb
       rw [hon, getD_both hun] at h2
       cases h2
     . cases hl : listed.getD j false with
       | true =>
         have h2 := inv.closed j oj hoj hl e he hb
         rw [hon, getD_both hun] at h2
         cases h2
       | false =>
         have hjs : j < listed.size := by rw [inv.size]; omega
         exact ih (t - j) (by omega) j rfl (by omega) (getD_in hjs hl) t (Nat.le_refl _) hr
   . have h1 := List.all_eq_true.1 hc t (List.mem_range.2 htlt)
     simp only [Bool.or_eq_true, decide_eq_true_eq] at h1
     rcases h1 with h1 | h1
     . omega
     . obtain ⟨j, hj, hj2⟩ := List.any_eq_true.1 h1
       simp only [Bool.and_eq_true, decide_eq_true_eq] at hj2
       have hjt := List.mem_range.1 hj
       obtain ⟨o', ho', e, he, hb, hon⟩ := Region.waitsFor_spec hj2.2
       have : o' = ot := Option.some.inj (ho'.symm.trans hot)
       subst this
       have h2 := hall e he hb
       rw [hon, getD_both (inv.tail j hj2.1 (by omega))] at h2
       cases h2
theorem jW {α : Type} (x : α) (w : World) : ((pure x : Sem α).runT P w #[]).2 = #[] := rfl
theorem lL {P : Prop} (h : P := by
 rcases h with h | ⟨h, _⟩
 . unfold Oper.wp at h
   rw [hr w] at h
   exact ⟨_, .inl ⟨hw, hr⟩, h⟩
 . have := h.1
   unfold execOp at this
   rw [hx] at this
   simp only [jW] at this
   simp at this
 ) : P := h
theorem pD {Q : Exit -> Act -> World -> Prop} {k : Nat} {o : Oper} {rest : List Oper} {a : Act} {w : World} (ho : ops[k]? = some o) (hp : xQ ops k = true) (h : wpList P ops Q (o :: rest) a w) (hQ : ∀ c a d v w, Q (.panic c) (Act.put a d v) w -> Q (.panic c) a w) :
 ∃ v, Yields P ops o v a /\ wpList P ops Q rest (a.put o.dst v) w := by
 unfold xQ at hp
 simp only [ho, Bool.and_eq_true] at hp
 obtain ⟨hg, hp⟩ := hp
 have hw : Region.wanted o (yielded ops a.tmps) = true := by
  have : o.guard = none := by simpa using hg
  simp [Region.wanted, this]
 unfold wpList at h
 rw [if_pos hw] at h
 split at hp
 . rename_i x hx
   have hr : ∀ w, (execOp a.eval o).run P w = .ok (.value (a.eval x)) w := BigFrame.run_move x hx
   exact lL
 . rename_i x hx
   have hr : ∀ w, (execOp a.eval o).run P w = .ok (.value (a.eval x)) w := BigFrame.run_assign x hx
   exact lL
 . rename_i x i hx
   have hE : execOp a.eval o = (do let y <- Instr.extract (a.eval x) i; pure (Next.value y)) := by
    unfold execOp
    rw [hx]
   unfold Oper.wp Oper.asks at h
   rw [hE] at h
   have key : ∀ u : Value, a.eval x = u -> ∃ v, Yields P ops o v a /\ wpList P ops Q rest (a.put o.dst v) w := by
    intro u hu
    rw [hu] at h
    by_cases ht : ∃ vs y, u = .tuple vs /\ vs[i]? = some y
    . obtain ⟨vs, y, rfl, hy⟩ := ht
      have hr : ∀ w, (execOp a.eval o).run P w = .ok (.value y) w := fun w => by
       rw [hE, hu]
       simp [Instr.extract, hy]
      refine ⟨y, .inl ⟨hw, hr⟩, ?_⟩
      rcases h with h | ⟨h, _⟩
      . simpa [Instr.extract, hy, Oper.upon] using h
      . have := h.1
        simp [Instr.extract, hy, jW] at this
        exact absurd (show noRoomEvent ∈ #[] from this) (by simp)
    . exfalso
      rcases h with h | ⟨h, _⟩
      . cases u
        case tuple vs =>
         cases hv : vs[i]? with
         | none => simp [Instr.extract, hv, stuck, Oper.upon] at h
         | some y => exact ht ⟨vs, y, rfl, hv⟩
        all_goals simp [Instr.extract, stuck, Oper.upon] at h
      . have := h.1
        cases u
        case tuple vs =>
         cases hv : vs[i]? with
         | none => simp [Instr.extract, hv, stuck] at this; exact absurd (show noRoomEvent ∈ #[] from this) (by simp)
         | some y => exact ht ⟨vs, y, rfl, hv⟩
        all_goals (simp [Instr.extract, stuck] at this; exact absurd (show noRoomEvent ∈ #[] from this) (by simp))
   exact key _ rfl
 . cases hp
theorem eL {Q' : Exit -> Act -> World -> Prop} (hsel : Region.noSelect ops = true) (hQ : ∀ c a d v w, Q' (.panic c) (Act.put a d v) w -> Q' (.panic c) a w) :
 ∀ (l : List Oper) (k : Nat) (listed : Array Bool) (a : Act) (w : World), (∀ j, l[j]? = ops[k + j]?) -> tO md ops l.length k listed = true -> wpList P ops Q' l a w -> wpAny P md ops Q' l.length listed a w
 | [], _, _, _, _, _, hB, h => ⟨by simpa [tO] using hB, h⟩
 | o :: l, k, listed, a, w, hl, hB, h => by
   have h0 : ops[k]? = some o := by simpa using (hl 0).symm
   simp only [List.length_cons, tO, Bool.and_eq_true, Bool.or_eq_true, decide_eq_true_eq] at hB
   have hl' : ∀ j, l[j]? = ops[k + 1 + j]? := fun j => by have := hl (j + 1); simpa [Nat.add_assoc, Nat.add_comm 1 j] using this
   rcases hB.1 with h1 | ⟨⟨h1, h2⟩, h3⟩
   . refine ⟨fun h2 => (by rw [h1] at h2; cases h2), fun i hi => ?_⟩
     rw [h1] at hi
     have hik : i = k := by simpa using hi
     subst hik
     have hw : wpOp P ops Q' i (wpList P ops Q' l) a w := by unfold wpOp; simp only [h0]; exact h
     exact wpOp_mono (fun a' w' h' => eL hsel hQ l (i + 1) _ a' w' hl' hB.2 h') hw
   . obtain ⟨v, hy, h4⟩ := pD h0 h3 h hQ
     exact wpAny_take h0 hsel h2 h1 (fun c a w => hQ c a _ _ w) hy (eL hsel hQ l (k + 1) _ _ w hl' hB.2 h4)
theorem oL {n i : Nat} {oi : Oper} {v : Value} {L : Array Bool -> Act -> Prop} (hi : ops[i]? = some oi) (hsel : ∀ (j : Nat) (o : Oper) cs b, ops[j]? = some o -> o.op ≠ .select cs b)
 (hs : Region.sinkB md ops n = true) (hc : sJ md ops n = true) (hn : n < ops.size) (hin : i < n) (hdone : ∀ done a, L done a -> ∀ j ∈ Region.ready md ops done, n <= j) (f : Nat) :
 ∀ (done : Array Bool) (a : Act), HeadInv md ops n done ->
  (∀ j oj, ops[j]? = some oj -> j ≠ i -> done.getD j true = false -> (∀ e ∈ oj.after, Region.binds md e = true -> e.on ≠ i) -> oi.apart ops oj = true) ->
  i ∈ Region.ready md ops done -> YieldsIn P ops C oi v a -> iN P md ops C n L f (done.setIfInBounds i true) (a.put oi.dst v) -> iN P md ops C n L (f + 1) done a := by
 have below : ∀ done : Array Bool, HeadInv md ops n done -> i ∈ Region.ready md ops done -> ∀ j ∈ Region.ready md ops done, j < n := fun done inv hr j hj => by
  rcases Nat.lt_or_ge j n with h | h
  . exact h
  . exact absurd hj (rE hs hc hn inv _ i rfl hin (mem_ready.1 hr).1 j h)
 induction f with
 | zero =>
   intro done a inv _ hr hy H
   refine ⟨fun h => (by rw [h] at hr; cases hr), fun j hj => ⟨below done inv hr j hj, ?_⟩⟩
   by_cases e : j = i
   . subst e; exact hy.qOp hi H
   . have := hdone _ _ H j (ready_mono hj e)
     have := below done inv hr j hj
     omega
 | succ f ih =>
   intro done a inv hfree hr hy H
   have hun := (mem_ready.1 hr).1
   refine ⟨fun h => (by rw [h] at hr; cases hr), fun j hj => ⟨below done inv hr j hj, ?_⟩⟩
   by_cases e : j = i
   . subst e; exact hy.qOp hi H
   . obtain ⟨hjun, oj, hoj, hall⟩ := mem_ready.1 hj
     have hnot : ∀ e ∈ oj.after, Region.binds md e = true -> e.on ≠ i := fun e he hb heq => by
      have h1 := hall e he hb
      rw [heq, getD_both hun] at h1
      cases h1
     have hstep := qOp_put hoj (hfree j oj hoj e hjun hnot) (fun cs b => hsel i oi cs b hi) (fun cs b => hsel j oj cs b hoj) hy (H.2 j (ready_mono hj e)).2
     refine qOp_mono (fun a' h3 => ih (done.setIfInBounds j true) a' (inv.set hj (below done inv hr j hj)) ?_ (ready_mono hr (Ne.symm e)) h3.1 ?_) hstep
     . intro k ok hk hki hku hno
       refine hfree k ok hk hki ?_ hno
       by_cases hjk : j = k
       . subst hjk; exact hjun
       . rwa [getD_set_ne true hjk] at hku
     . rw [Array.setIfInBounds_comm _ _ e]; exact h3.2
theorem sY {n g : Nat} {T : Act -> Prop} (hsel : Region.noSelect ops = true) (hs : Region.sinkB md ops n = true) (hc : sJ md ops n = true) (hn : n < ops.size) (l : List Oper) :
 ∀ (k : Nat) (done : Array Bool) (a : Act), (∀ j, j < l.length -> l[j]? = ops[k + j]?) -> k + l.length = n -> HeadInv md ops n done ->
  jQ md ops g l.length k done = true -> wpQuiet P ops C T l a -> iN P md ops C n (fun done' a' => ((Region.ready md ops done').all (fun j => decide (n <= j)) = true /\ tO md ops g n done' = true) /\ T a') l.length done a := by
 induction l with
 | nil =>
   intro k done a _ hk _ hB h
   obtain rfl : k = n := by simpa using hk
   exact ⟨by simpa [jQ] using hB, h⟩
 | cons o l ih =>
   intro k done a hl hk inv hB h
   have h0 : ops[k]? = some o := by simpa using (hl 0 (by simp)).symm
   simp only [List.length_cons, jQ, Bool.and_eq_true] at hB
   obtain ⟨⟨hr, hf⟩, hB'⟩ := hB
   have hkl : k + (l.length + 1) = n := by simpa using hk
   have hr' : k ∈ Region.ready md ops done := by simpa using hr
   have hq : qOp P ops C k (wpQuiet P ops C T l) a := by unfold qOp; simp only [h0]; exact h
   obtain ⟨v, hy, hK⟩ := yieldsIn_of_qOp h0 hq
   refine oL h0 (Region.noSelect_spec hsel) hs hc hn (by omega) (fun done' a' hL j hj => by simpa using List.all_eq_true.1 hL.1.1 j hj) l.length done a inv (Region.free_spec h0 hf) hr' hy ?_
   exact ih (k + 1) _ _ (fun j hj => by have := hl (j + 1) (by simpa using hj); simpa [Nat.add_assoc, Nat.add_comm 1 j] using this) (by omega) (inv.set hr' (by omega)) hB' hK
theorem kS {id : Nat} {Q : Exit -> Act -> World -> Prop} {a : Act} {w : World} {l : List Oper} (n : Nat) (hm : P.follows .mixedOrders = true) (hB : nH .any l.toArray n = true)
 (hQ : ∀ c a d v w, Q (.panic c) (Act.put a d v) w -> Q (.panic c) a w)
 (hC : C { w with drawn := w.drawn + 1 }) (h : wpQuiet P l.toArray C (fun a' => ∀ w', C w' -> wpList P l.toArray Q (l.drop n) a' w') (l.take n) a) : (Code.region id l.toArray true).wp P Q a w := by
 simp only [nH, Bool.and_eq_true, decide_eq_true_eq] at hB
 obtain ⟨⟨⟨⟨hsel, hn⟩, hs⟩, hc⟩, hlex⟩ := hB
 have hn' : n < l.length := by simpa using hn
 have htl : (l.take n).length = n := by simp; omega
 have hdl : (l.drop n).length = l.toArray.size - n := by simp
 have inv0 : HeadInv .any l.toArray n (Array.replicate l.toArray.size false) :=
  ⟨by simp, fun j oj _ hl => (by rw [getD_replicate_false] at hl; cases hl), fun t _ ht => getD_in (by simpa using ht) (getD_replicate_false _ _)⟩
 have H := sY (C := C) (md := .any) (g := l.toArray.size - n) hsel hs hc hn (l.take n) 0 _ a (fun j hj => by rw [htl] at hj; simp [hj]) (by simpa using htl) inv0 (by rw [htl]; exact hlex) h
 have key := iO (Q' := Q) (g := l.toArray.size - n) (fun done a' w' hw' hL => by
  have := eL (md := .any) (Q' := Q) hsel hQ (l.drop n) n done a' w' (fun j => by simp [List.getElem?_drop]) (by rw [hdl]; exact hL.1.2) (hL.2 w' hw')
  rwa [hdl] at this) _ _ _ _ hC H
 rw [htl, show n + (l.toArray.size - n) = l.toArray.size by omega] at key
 exact wp_region_any hm key
end
theorem fQ {P : Program} {id : Nat} {Q : Exit -> Act -> World -> Prop} {a : Act} {w : World} {l : List Oper} (n : Nat) (hm : P.follows .mixedOrders = true) (hB : nH .any l.toArray n = true)
 (hQ : ∀ c a d v w, Q (.panic c) (Act.put a d v) w -> Q (.panic c) a w)
 (h : wpQuiet P l.toArray (fun w' => ∃ p : Regrown, w' = grow (redrawn w p.d) p.os) (fun a' => ∀ w', (∃ p : Regrown, w' = grow (redrawn w p.d) p.os) -> wpList P l.toArray Q (l.drop n) a' w') (l.take n) a) : (Code.region id l.toArray true).wp P Q a w :=
 kS (C := fun w' => ∃ p : Regrown, w' = grow (redrawn w p.d) p.os) n hm hB hQ ⟨⟨w.drawn + 1, #[]⟩, by rw [grow_empty]; rfl⟩ h
end Go.Proofs.YtaohacadochldaaGreat.B
