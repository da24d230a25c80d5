/- A part of the proof of a law of layer 12: ax. -/
import Derived.Test.YtaohacadochldaaGreatZCaw
import Derived.Laws.CopyOwn
set_option linter.unusedVariables false
set_option linter.unusedSimpArgs false
set_option maxHeartbeats 12800000
set_option maxRecDepth 100000
namespace Go.Proofs.YtaohacadochldaaGreat.B
open Go.Proofs.Tryz
open Go.ChangeShapes Go.WideShapes Go.RowKit Go.Sort
theorem iPt : (prog.info? 108).map (·.size) = some 5 := by kernel_rfl
section
variable {ops : Array Oper} {rest : List Oper} {o : Oper} {a : Act} {w : World} {Q : Exit -> Act -> World -> Prop}
theorem aMB (hgd : o.guard = none) (x : Operand) (ho : o.op = .load 108 x) {b : Nat} (hx : a.eval x = .pointer (some ⟨b, 0, none⟩)) (vs : List Value) (hl : vs.length = 5) (hg : w.heap[b]? = some (.cells vs.toArray tPt (0, 0)))
 (h : wpList prog ops Q rest (a.put o.dst (.agg vs.toArray)) w) : wpList prog ops Q (o :: rest) a w :=
 aN hgd _ x ho b 0 hx _ vs hg underlying108 rfl (by rw [hl]; exact iPt) (aL _) h
theorem aJQ (hgd : o.guard = none) (x y : Operand) (ho : o.op = .store 108 x y) {b : Nat} (hx : a.eval x = .pointer (some ⟨b, 0, none⟩)) (vs us : List Value) (hl : vs.length = 5) (hu : us.length = 5) (h1 : ∀ v ∈ vs, v.oneCell' = true) (hy : a.eval y = .agg vs.toArray) (hg : w.heap[b]? = some (.cells us.toArray tPt (0, 0)))
 (h : wpList prog ops Q rest (a.put o.dst undef) (w.setRow b vs.toArray)) : wpList prog ops Q (o :: rest) a w := by
 refine aJ hgd _ x y ho b 0 hx vs hy hg (by rw [hl]; exact iPt) (by simp [hl, hu]) h1 ?_
 rw [aW _ _ (by simp [hl, hu])]
 exact h
theorem aOx {fn : Func} {p : Tmp} (h : fn.results = #[.cell p 108]) (tmps : Array Value) (w : World) {b : Nat} (vs : List Value) (hl : vs.length = 5) (hp : tmps[p]? = some (.pointer (some ⟨b, 0, none⟩))) (hg : w.heap[b]? = some (.cells vs.toArray tPt (0, 0))) :
 (results fn tmps).run prog w = .ok (.agg vs.toArray) w :=
 aS h tmps w b 0 _ vs hp hg underlying108 rfl (by rw [hl]; exact iPt) (aL _)
end
def z5P : List Value := [.int .i64 0, .int .u64 0, .int .u32 0, .pointer none, .slice none 0 0]
theorem aIy (p : Pt) (b : Nat) (gv : Value) (hg : gv.oneCell' = true) : ∀ v ∈ pcl p b gv, v.oneCell' = true := by
 intro v hv
 simp only [pcl, List.mem_cons, List.not_mem_nil, or_false] at hv
 rcases hv with rfl | rfl | rfl | rfl | rfl <;> first | rfl | exact hg
theorem aMV (q : Nat) (B : Bp) (p : Pt) (gv : Value) (w : World) (H : aT w q B p gv) :
 Calls prog 51 #[.pointer (some ⟨q, 0, none⟩)] w fun e w' => e = .returned (.agg #[.int .i64 p.md, .int .u64 p.sp, .int .u32 p.se, .pointer (some ⟨B.b, 0, none⟩), gv]) /\ Below w.heap.size w w' := by
 have hg : (w.alloc (.cells #[.int .i64 0, .int .u64 0, .int .u32 0, .pointer none, .slice none 0 0] 108)).heap[q]? = some (.cells (pcl p B.b gv).toArray tPt (0, 0)) := (aX w _ H.lt).trans H.cell
 have hz : (w.alloc (.cells #[.int .i64 0, .int .u64 0, .int .u32 0, .pointer none, .slice none 0 0] 108)).heap[w.heap.size]? = some (.cells z5P.toArray tPt (0, 0)) := aD w _
 have h1 := aIy p B.b gv H.g.one
 have hs := aY (pcl p B.b gv).toArray hz
 have hb := aB (aE (aH w) (.cells #[.int .i64 0, .int .u64 0, .int .u32 0, .pointer none, .slice none 0 0] 108)) (pcl p B.b gv).toArray (g := w.heap.size) (Nat.le_refl _)
 go_enter func51, ntmps51
 go_wp2_with (first | (refine aMB rfl (.tmp 7) rfl rfl (pcl p B.b gv) rfl hg ?_) | (refine aJQ rfl (.tmp 2) (.tmp 8) rfl rfl (pcl p B.b gv) z5P rfl rfl h1 rfl hz ?_))
 exact bodyPost_ret (aOx rfl _ _ (pcl p B.b gv) rfl rfl hs) rfl ⟨rfl, hb⟩
theorem fP0 (a0 a1 a2 a3 a4 : Value) (w : World) : (Instr.field 108 (.agg #[a0, a1, a2, a3, a4]) 0).run prog w = .ok (.agg #[a0, a1, a2]) w := by kernel_rfl
theorem fP1 (a0 a1 a2 a3 a4 : Value) (w : World) : (Instr.field 108 (.agg #[a0, a1, a2, a3, a4]) 1).run prog w = .ok a3 w := by kernel_rfl
theorem fC0 (a0 a1 a2 : Value) (w : World) : (Instr.field 106 (.agg #[a0, a1, a2]) 0).run prog w = .ok a0 w := by kernel_rfl
theorem fC1 (a0 a1 a2 : Value) (w : World) : (Instr.field 106 (.agg #[a0, a1, a2]) 1).run prog w = .ok a1 w := by kernel_rfl
theorem fC2 (a0 a1 a2 : Value) (w : World) : (Instr.field 106 (.agg #[a0, a1, a2]) 2).run prog w = .ok a2 w := by kernel_rfl
theorem aMW (q : Nat) (B : Bp) (p : Pt) (gv : Value) (w : World) (H : aT w q B p gv) :
 Calls prog 49 #[.pointer (some ⟨q, 0, none⟩)] w fun e w' => e = .returned (.int .u64 p.sp) /\ Below w.heap.size w w' := by
 have hf0 := fP0
 have hf1 := fC1
 have HN := Hd (aMV q B p gv w H)
 clear H
 go_enter func49, ntmps49
 go_wp2_with fail
 refine (HN.out).mono ?_
 rintro e w1 ⟨rfl, hb⟩
 exact bS
theorem aKa (q : Nat) (B : Bp) (p : Pt) (gv : Value) (w : World) (H : aT w q B p gv) :
 Calls prog 21 #[.pointer (some ⟨q, 0, none⟩)] w fun e w' => e = .returned (.int .i64 p.md) /\ Below w.heap.size w w' := by
 have hf0 := fP0
 have hf1 := fC0
 have HN := Hd (aMV q B p gv w H)
 clear H
 go_enter func21, ntmps21
 go_wp2_with fail
 refine (HN.out).mono ?_
 rintro e w1 ⟨rfl, hb⟩
 exact bS
theorem pI (q : Nat) (B : Bp) (p : Pt) (gv : Value) (w : World) (H : aT w q B p gv) :
 Calls prog 20 #[.pointer (some ⟨q, 0, none⟩)] w fun e w' => e = .returned (.pointer (some ⟨B.b, 0, none⟩)) /\ Below w.heap.size w w' := by
 have hf0 := fP1
 have HN := Hd (aMV q B p gv w H)
 clear H
 go_enter func20, ntmps20
 go_wp2_with fail
 refine (HN.out).mono ?_
 rintro e w1 ⟨rfl, hb⟩
 exact bS
theorem wV {P : Prop} (h : P := by
 rw [hd]
 clear hd H ht hse h
 go_enter func47, ntmps47
 go_upto_region 1 with (fail)
 refine wp_region_quiet_below (by kernel_rfl) (by kernel_rfl) ?_
 repeat (go_big_quiet_step (first
  | (go_at_call 63; exact Calls.regrown_of (HR.out _ (HH.out.bd.below (below_regrown w _ _))))
  | (go_at_call 74; exact Calls.regrown_of (HA.out _))))
 refine wpQuiet_nil ?_
 intro _ hw'
 obtain ⟨⟨dq, osq⟩, hw''⟩ := hw'
 subst hw''
 go_wp2_with fail
 go_ret
 exact ⟨rfl, below_regrown w _ _⟩
 ) : P := h
theorem uU (q : Nat) (B : Bp) (p : Pt) (gv : Value) (w : World) (H : aT w q B p gv) (ht : p.x.told) (hse : p.se <= p.x.es.length) :
 Calls prog 47 #[.pointer (some ⟨q, 0, none⟩)] w fun e w' => e = .returned (.bool p.dn) /\ Below w.heap.size w w' := by
 have HR := Hd (show ∀ w', aZ w' B p.x -> _ from fun w' h => aAN B p.x w' h ht)
 have HH := Hd H
 have c0 := H.c0
 have c1 := H.c1
 have c2 := H.c2
 have c3 := H.c3
 have hq := H.lt
 have hg := bC
 have s0 := fP (p.md : Int)
 have s1 := fP p.sp
 by_cases h : p.se < p.x.es.length
 . have HA := Hd (fun w' => aCs p.md p.sp p.se p.x.es.length p.x.es.length w' (by omega))
   have hd : p.dn = true := by unfold Pt.dn; exact decide_eq_true h
   have hne : ((p.se : Int) == (p.x.es.length : Int)) = false := by simp; omega
   exact wV
 . have HA := Hd (fun w' => aCs p.md p.sp p.se p.x.es.length p.se w' (by omega))
   have hd : p.dn = false := by unfold Pt.dn; exact decide_eq_false h
   have s2 := fP (p.se : Int)
   exact wV
theorem aT.set {w : World} {q : Nat} {B : Bp} {p : Pt} {gv : Value} (H : aT w q B p gv) (j : Nat) (v : Value) (p' : Pt) (hx : p'.x = p.x) (hg : p'.gs = p.gs) (he : (pcl p B.b gv).set j v = pcl p' B.b gv) : aT (w.setCell ⟨q, j, none⟩ v) q B p' gv := by
 refine ⟨?_, hx ▸ H.bd.off (aG w q j v) fun k hk e => H.noB (e ▸ hk), hg ▸ H.g.off (aG w q j v) fun k _ hk e => ?_⟩
 . rw [aR H.cell, gL, he]
 . rcases hk with hk | hk
   . omega
   . exact H.noG hk e
def bA (q : Nat) (B : Bp) (p : Pt) (gv : Value) (w w' : World) : Prop := ∃ ev', aT w' q { B with ev := ev' } p gv /\ aF (fun k => k = q \/ B.own k) w w' /\ ∀ k, ev'.ownBlock = some k -> B.ev.ownBlock = some k \/ w.heap.size <= k
section
variable {w w' w'' : World} {q : Nat} {B : Bp} {p p2 : Pt} {gv gv2 : Value}
theorem aT.left (H : aT w q B p gv) (hb : Below w.heap.size w w') : bA q B p gv w w' := ⟨B.ev, H.below hb, aF.ofBelow hb, fun k hk => .inl hk⟩
theorem bA.from (ho : aF (fun k => k = q \/ B.own k) w w') (L : bA q B p gv w' w'') : bA q B p gv w w'' := by
 obtain ⟨ev', h, ho2, he⟩ := L
 exact ⟨ev', h, ho.trans ho2, fun k hk => (he k hk).imp id fun h => Nat.le_trans ho.size h⟩
theorem bA.below (L : bA q B p gv w w') (hb : Below w'.heap.size w' w'') : bA q B p gv w w'' := by
 obtain ⟨ev', h, ho, he⟩ := L
 exact ⟨ev', h.below hb, ho.trans (aF.ofBelow hb), he⟩
theorem bA.andThen {ev1 : Value} (ho : aF (fun k => k = q \/ B.own k) w w') (he1 : ∀ k, ev1.ownBlock = some k -> B.ev.ownBlock = some k \/ w.heap.size <= k) (L : bA q { B with ev := ev1 } p gv w' w'') : bA q B p gv w w'' := by
 obtain ⟨ev', h, ho2, he⟩ := L
 refine ⟨ev', h, ho.next ho2 ?_, fun k hk => ?_⟩
 . rintro i hi (hq | h1 | h1 | h1)
   . exact .inl hq
   . exact .inr (.inl h1)
   . exact .inr (.inr (.inl h1))
   . rcases he1 i h1 with h2 | h2
     . exact .inr (.inr (.inr h2))
     . omega
 . rcases he k hk with h1 | h1
   . exact he1 k h1
   . exact .inr (Nat.le_trans ho.size h1)
theorem aT.board {y : Bx} (H : aT w q B p gv) (L : kV B y w w') : bA q B { p with x := y } gv w w' := by
 have K := L.kp H.bd
 obtain ⟨ev', h, ho, he⟩ := L
 refine ⟨ev', ⟨ho.at H.cell H.noO, h, H.g.off ho fun k _ hk hS => ?_⟩, ho.mono fun k _ hk => .inr hk, he⟩
 rcases hk with hk | hk
 . omega
 . have := H.bd.ownKd hS; rw [(tZ hk).1] at this; cases this
end
theorem aD9 (k : Nat) (h : k < 4294967296) : IntKind.i64.wrap ((k : Int) + 1) = (k : Int) + 1 := by rw [IntKind.wrap_i64]; omega
theorem wZ {P : Prop} (h : P := by
 refine wpQuiet_nil ?_
 intro _ hw'
 obtain ⟨⟨dq, osq⟩, hw''⟩ := hw'
 subst hw''
 go_wp2_with fail
 go_ret
 exact ⟨rfl, below_regrown w _ _⟩
 ) : P := h
theorem aP3 (q : Nat) (B : Bp) (p : Pt) (gv : Value) (w : World) (H : aT w q B p gv) (hg : ∀ g ∈ p.gs, 0 <= g /\ g < 4294967296) :
 Calls prog 194 #[.pointer (some ⟨q, 0, none⟩)] w fun e w' => e = .returned (.int .u64 p.gp) /\ Below w.heap.size w w' := by
 obtain ⟨y, cap, rfl, h1, h2, h3⟩ := H.g
 have c0 := H.c0
 have c4 := H.c4
 have hq := H.lt
 by_cases hN : p.gs.length = 0
 . rw [Pt.gp_nil hN]
   rw [hN] at c4
   clear H h1 h2 h3 hg
   go_enter func194, ntmps194
   go_wp2_with fail
   go_ret
   exact ⟨rfl, aH _⟩
 . obtain ⟨b, off, rfl, hb, _, hc⟩ := h3.resolve_left hN
   obtain ⟨i, hi⟩ : ∃ i, p.md % p.gs.length = i := ⟨_, rfl⟩
   have hil : i < p.gs.length := by rw [<- hi]; exact Nat.mod_lt _ (by omega)
   obtain ⟨g, hgi⟩ : ∃ g, p.gs[i]? = some g := ⟨_, List.getElem?_eq_getElem hil⟩
   have hgb := hg g (List.mem_of_getElem? hgi)
   rw [Pt.gp_get hi hgi]
   have ci := hc i g hgi
   have hrem : (p.md : Int).tmod (p.gs.length : Int) = (i : Int) := by rw [<- hi, Int.tmod_eq_emod_of_nonneg (by omega)]; omega
   generalize p.gs.length = N at *
   have hne : ((N : Int) == 0) = false := by simp; omega
   have hgc := bC
   clear H h3 hg hc hi hgi
   go_enter func194, ntmps194
   go_upto_region 3 with (fail)
   refine wp_region_quiet_below (by kernel_rfl) (by kernel_rfl) ?_
   repeat (go_big_quiet_step (fail))
   exact wZ
theorem aKb (q : Nat) (B : Bp) (p : Pt) (gv : Value) (m : Nat) (w : World) (H : aT w q B p gv) (ok : p.ok m) (hm : m < 4294967290) :
 Calls prog 120 #[.pointer (some ⟨q, 0, none⟩)] w fun e w' => e = .returned (.tuple #[]) /\ bA q B p.pass gv w w' := by
 have hgb := Pt.gp_bounds ok.gs
 have HG := Hd (fun w' h => aP3 q B p gv w' h ok.gs)
 have HH := Hd H
 have hmd := ok.md
 have hs0 := ok.s0
 have hs1 := ok.s1
 have hel : p.x.es.length < 4294967296 := by have := ok.es; omega
 have hw1 : IntKind.i64.wrap ((p.md : Int) + 1) = ((p.md : Int) + 1) := aD9 p.md (by omega)
 have hw2 : IntKind.u64.wrap (p.sp + p.gp) = p.sp + p.gp := IntWalk.u64_in _ (by omega)
 have HPP := Hd (show p.pass = { p with md := p.md + 1, sp := p.sp + p.gp, x := p.x.tick p.gp } from rfl)
 have HEL := Hd hel
 have HGB := Hd hgb
 clear H ok hm hmd hs0 hs1 hel hgb
 generalize p.gp = g at *
 go_enter func120, ntmps120
 go_wp2_with fail
 refine (HG.out _ HH.out).mono ?_
 rintro e w1 ⟨rfl, hb⟩
 have HH1 := Hd (HH.out.below hb)
 have HO := Hd (aF.ofBelow (S := fun k => k = q \/ B.own k) hb)
 have c0 := HH1.out.c0
 have c1 := HH1.out.c1
 have c3 := HH1.out.c3
 have f0 := HH1.out.free 0
 have f1 := HH1.out.free 1
 have hq := HH1.out.lt
 clear hb HG HH
 go_upto_region 3 with (fail)
 have H2 := (HH1.out.set 0 (.int .i64 ((p.md : Int) + 1)) { p with md := p.md + 1 } rfl rfl rfl).set 1 (.int .u64 (p.sp + g)) { p with md := p.md + 1, sp := p.sp + g } rfl rfl rfl
 have O2 := (HO.out.trans (aF.ofSetCell w1 ⟨q, 0, none⟩ (.int .i64 ((p.md : Int) + 1)) (.inl rfl))).trans (aF.ofSetCell (S := fun k => k = q \/ B.own k) (w1.setCell ⟨q, 0, none⟩ (.int .i64 ((p.md : Int) + 1))) ⟨q, 1, none⟩ (.int .u64 (p.sp + g)) (.inl rfl))
 clear c0 c1 c3 f0 f1 hq HH1 HO hw1 hw2
 generalize (w1.setCell ⟨q, 0, none⟩ (.int .i64 ((p.md : Int) + 1))).setCell ⟨q, 1, none⟩ (.int .u64 (p.sp + g)) = W at *
 have HH2 := Hd H2
 have HO2 := Hd O2
 have c3 := H2.c3
 clear H2 O2
 go_wp2_with fail
 refine (aFO B p.x g _ HH2.out.bd HGB.out.1 (by have := HGB.out.2; omega) HEL.out).mono ?_
 rintro e w2 ⟨rfl, hL⟩
 have HX := Hd (bA.from HO2.out (HH2.out.board hL))
 clear c3 hL
 go_wp2_with fail
 go_end0
 exact ⟨rfl, by rw [HPP.out]; exact HX.out⟩
theorem aKZ (q : Nat) (B : Bp) (p : Pt) (gv : Value) (m : Nat) (w : World) (H : aT w q B p gv) (ok : p.ok m) (hm : m < 4294967290) :
 Calls prog 39 #[.pointer (some ⟨q, 0, none⟩)] w fun e w' => e = .returned (.int .i64 ((p.x.es.length : Int) - p.se)) /\ bA q B p.bt gv w w' := by
 have HR := Hd (show ∀ w', aZ w' B p.x -> _ from fun w' h => aAN B p.x w' h ok.td)
 have HH := Hd H
 have hse := ok.se
 have hes := ok.es
 have HA := Hd (fun w' => aCs p.md p.sp p.se p.x.es.length p.x.es.length w' (by omega))
 have hw : IntKind.u32.wrap ((p.x.es.length : Int) - p.se) = (p.x.es.length : Int) - p.se := IntWalk.u32_in _ (by omega)
 have hw2 : IntKind.i64.wrap ((p.x.es.length : Int) - p.se) = (p.x.es.length : Int) - p.se := by rw [IntKind.wrap_i64]; omega
 have hf2 := fC2
 have c3 := H.c3
 clear H ok hm hse hes
 go_enter func39, ntmps39
 go_wp2_with fail
 refine (HR.out _ HH.out.bd).mono ?_
 rintro e w1 ⟨rfl, hb⟩
 have HH1 := Hd (HH.out.below hb)
 have HO := Hd (aF.ofBelow (S := fun k => k = q \/ B.own k) hb)
 clear hb HR HH c3
 have c0 := HH1.out.c0
 have c1 := HH1.out.c1
 have c2 := HH1.out.c2
 have hq := HH1.out.lt
 have hg := bC
 go_upto_region 4 with (fail)
 refine wp_region_quiet_below (by kernel_rfl) (by kernel_rfl) ?_
 repeat (go_big_quiet_step (first | (go_at_call 74; exact Calls.regrown_of (HA.out _))))
 refine wpQuiet_nil ?_
 intro _ hw'
 obtain ⟨⟨dq, osq⟩, hw''⟩ := hw'
 subst hw''
 have hb := below_regrown w1 dq osq
 have HH2 := Hd (HH1.out.below hb)
 have HO2 := Hd (HO.out.trans (aF.ofBelow hb))
 clear hb HH1 HO c0 c1 c2 hq hg
 dsimp only at HH2 HO2 ⊢
 generalize grow (redrawn w1 dq) osq = W at *
 have f2 := HH2.out.free 2
 have c2 := HH2.out.c2
 have HX := Hd (show bA q B p.bt gv w (W.setCell ⟨q, 2, none⟩ (.int .u32 p.x.es.length)) from ⟨B.ev, HH2.out.set 2 (.int .u32 p.x.es.length) p.bt rfl rfl rfl, HO2.out.trans (aF.ofSetCell W ⟨q, 2, none⟩ (.int .u32 p.x.es.length) (.inl rfl)), fun k hk => .inl hk⟩)
 go_wp2_with fail
 go_ret
 exact ⟨rfl, HX.out⟩
def g64 : Obj := .cells #[.int .u32 0, .int .u32 0, .int .u32 0, .int .u32 0, .int .u32 0, .int .u32 0, .int .u32 0, .int .u32 0, .int .u32 0, .int .u32 0, .int .u32 0, .int .u32 0, .int .u32 0, .int .u32 0, .int .u32 0, .int .u32 0, .int .u32 0, .int .u32 0, .int .u32 0, .int .u32 0, .int .u32 0, .int .u32 0, .int .u32 0, .int .u32 0, .int .u32 0, .int .u32 0, .int .u32 0, .int .u32 0, .int .u32 0, .int .u32 0, .int .u32 0, .int .u32 0, .int .u32 0, .int .u32 0, .int .u32 0, .int .u32 0, .int .u32 0, .int .u32 0, .int .u32 0, .int .u32 0, .int .u32 0, .int .u32 0, .int .u32 0, .int .u32 0, .int .u32 0, .int .u32 0, .int .u32 0, .int .u32 0, .int .u32 0, .int .u32 0, .int .u32 0, .int .u32 0, .int .u32 0, .int .u32 0, .int .u32 0, .int .u32 0, .int .u32 0, .int .u32 0, .int .u32 0, .int .u32 0, .int .u32 0, .int .u32 0, .int .u32 0, .int .u32 0] tG (0, 0)
theorem aLn : Obj.cells #[.int .u32 0, .int .u32 0, .int .u32 0, .int .u32 0, .int .u32 0, .int .u32 0, .int .u32 0, .int .u32 0, .int .u32 0, .int .u32 0, .int .u32 0, .int .u32 0, .int .u32 0, .int .u32 0, .int .u32 0, .int .u32 0, .int .u32 0, .int .u32 0, .int .u32 0, .int .u32 0, .int .u32 0, .int .u32 0, .int .u32 0, .int .u32 0, .int .u32 0, .int .u32 0, .int .u32 0, .int .u32 0, .int .u32 0, .int .u32 0, .int .u32 0, .int .u32 0, .int .u32 0, .int .u32 0, .int .u32 0, .int .u32 0, .int .u32 0, .int .u32 0, .int .u32 0, .int .u32 0, .int .u32 0, .int .u32 0, .int .u32 0, .int .u32 0, .int .u32 0, .int .u32 0, .int .u32 0, .int .u32 0, .int .u32 0, .int .u32 0, .int .u32 0, .int .u32 0, .int .u32 0, .int .u32 0, .int .u32 0, .int .u32 0, .int .u32 0, .int .u32 0, .int .u32 0, .int .u32 0, .int .u32 0, .int .u32 0, .int .u32 0, .int .u32 0] 191 (0, 0) = g64 := rfl
theorem aKI : g64 = .cells (List.replicate 64 (Value.int .u32 0)).toArray tG (0, 0) := by kernel_rfl
def mM (gs : List Int) : List Value := gs.map fun g => .int .u32 g
theorem aA4 (gs : List Int) : ∀ v ∈ mM gs, v.oneCell' = true := by
 intro v h
 obtain ⟨g, _, rfl⟩ := List.mem_map.1 h
 rfl
theorem aA3 {gs : List Int} {j : Nat} {v : Value} (h : (mM gs)[j]? = some v) : ∃ g, gs[j]? = some g /\ v = .int .u32 g := by
 unfold mM at h
 rw [List.getElem?_map] at h
 cases e : gs[j]? with
 | none => rw [e] at h; cases h
 | some g => rw [e] at h; exact ⟨g, rfl, by simpa using h.symm⟩
theorem tI (g o i : Nat) : (⟨g, o, none⟩ : Addr).add i = ⟨g, o + i, none⟩ := by unfold Addr.add; split <;> simp_all
theorem aF5 {s : Nat} {w : World} {y : Option Addr} {cap : Nat} {gs : List Int} (h : gs.length = 0 \/ ∃ b off, y = some ⟨b, off, none⟩ /\ b < w.heap.size /\ (b < s \/ gK (kd w b) = true) /\ ∀ i g, gs[i]? = some g -> w.cell? ⟨b, off + i, none⟩ = some (.int .u32 g)) {w' : World} (hb : Below w.heap.size w w') (hp : 0 < (mM gs).length) :
 ∃ ad, y = some ad /\ ∀ j v, (mM gs)[j]? = some v -> w'.cell? (ad.add j) = some v := by
 rcases h with h | ⟨b, off, rfl, h1, _, h2⟩
 . unfold mM at hp; rw [List.length_map] at hp; omega
 . refine ⟨_, rfl, fun j v hj => ?_⟩
   obtain ⟨g, hg, rfl⟩ := aA3 hj
   rw [tI, hb.cell (p := ⟨b, off + j, none⟩) h1]
   exact h2 j g hg
theorem aLq {w : World} {a n : Nat} {gs : List Int} (hn : gs.length = n) (hl : n <= 64) (h : w.heap[a]? = some (.cells (Go.splice (List.replicate 64 (Value.int .u32 0)) 0 (mM gs)).toArray tG (0, 0))) : jW 0 w (.slice (some ⟨a, 0, none⟩) n n) gs := by
 subst hn
 refine ⟨_, _, rfl, Nat.le_refl _, by unfold maxLen; omega, .inr ⟨a, 0, rfl, lt_of_block h, .inr ?_, fun i g hi => ?_⟩⟩
 . rw [bT h]; decide
 . have hil : i < gs.length := (List.getElem?_eq_some_iff.1 hi).1
   rw [aA h, Nat.zero_add, List.getElem?_toArray]
   unfold Go.splice
   rw [List.take_zero, List.nil_append, List.getElem?_append_left (by unfold mM; rw [List.length_map]; exact hil)]
   unfold mM
   rw [List.getElem?_map, hi]
   rfl
theorem aJK (a n : Nat) (hl : n <= 64) (w : World) : (Instr.sliceAt 191 (.pointer (some ⟨a, 0, none⟩)) none (some (.int .i64 n)) (some (.int .i64 n))).run prog w = .ok (.slice (some ⟨a, 0, none⟩) n n) w := by
 have hal : prog.arrayLen 191 = 64 := by kernel_rfl
 have hel : prog.elem 191 = tU := by kernel_rfl
 have hs : ∀ w, (sizeOf tU).run prog w = .ok 1 w := fun w => by kernel_rfl
 rw [run_sliceAt_array_hm (P := prog) w 191 ⟨a, 0, none⟩ (by rw [hal, hel]; exact underlying191) .i64 .i64 n n (by omega) (Int.le_refl _) (by rw [hal]; omega), hel, hs]
 simp only [Result.andThen_ok, slicedAt, Int.toNat_natCast, Nat.sub_zero, Nat.zero_mul, tI, Nat.add_zero, ite_self]
theorem aMT (s : Nat) (v : Value) (gs : List Int) (w : World) (G : jW s w v gs) (hl : gs.length <= 64) :
 Calls prog 64 #[v] w fun e w' => ∃ v', e = .returned v' /\ jW 0 w' v' gs /\ Below w.heap.size w w' := by
 obtain ⟨y, cap, rfl, h1, h2, h3⟩ := G
 have hal : prog.arrayLen 191 = 64 := by kernel_rfl
 have hz := aD w g64
 rw [aKI] at hz
 have hb := aE (aH w) g64
 have hcs := Hd (fun hp => aF5 h3 (cap := cap) hb hp)
 have hcl : (mM gs).length = gs.length := by unfold mM; rw [List.length_map]
 have h1c := aA4 gs
 obtain ⟨n, hn⟩ : ∃ n, gs.length = n := ⟨_, rfl⟩
 have HE := Hd (fun (w' : World) h => aLq (w := w') (a := w.heap.size) hn (hn ▸ hl) h)
 rw [hn] at hl hcl h1 
 obtain ⟨L, hL⟩ : ∃ L, L = List.replicate 64 (Value.int .u32 0) := ⟨_, rfl⟩
 have hLl : L.length = 64 := by rw [hL, List.length_replicate]
 have hgl : g64 = .cells L.toArray tG (0, 0) := by rw [aKI, hL]
 rw [<- hL] at hz HE
 rw [hgl] at hb hcs
 have HZ := Hd hz
 have HB := Hd hb
 clear h3 hL hz hb
 go_enter func64, ntmps64
 rw [hn]
 go_upto_region 2 with (fail)
 rw [aLn, hgl]
 clear hgl
 generalize w.alloc (.cells L.toArray tG (0, 0)) = W at *
 have hc2 : (mM gs).length = Nat.min n 64 := by rw [hcl]; exact (Nat.min_eq_left hl).symm
 have hfit : 0 + (mM gs).length <= L.length := by omega
 go_upto_region 3 with (refine wpList_copy_splice rfl (.tmp 5) (.tmp 6) 22 22 rfl tU underlying22 (by kernel_rfl) _ _ 64 64 n cap rfl rfl w.heap.size 0 L tG HZ.out (mM gs) hc2 (fun hp => ⟨rfl, hcs.out hp⟩) hfit h1c w.heap.size w HB.out (Nat.le_refl _) ?_; intro w2 hz2 hb2)
 have hsl := aJK w.heap.size n hl
 have hv := HE.out w2 hz2.out
 clear hcs HZ HB hc2 hfit hz2 HE hcl hl h1 h2
 go_wp2_with fail
 go_ret
 exact ⟨_, rfl, hv, hb2⟩
theorem jW.own {s : Nat} {w : World} {v : Value} {gs : List Int} (h : jW s w v gs) : ∃ y len cap, v = .slice y len cap := by obtain ⟨y, cap, rfl, _⟩ := h; exact ⟨_, _, _, rfl⟩
def pt0 (x : Bx) (gs : List Int) : Pt := ⟨x, gs, 0, 0, x.es.length⟩
theorem aFU (a b c : Int) (d : Option Addr) (y : Option Addr) (l k : Nat) (w : World) : (Instr.build 108 #[(0, .agg #[.int .i64 a, .int .u64 b, .int .u32 c]), (1, .pointer d), (2, .slice y l k)]).run prog w = .ok (.agg #[.int .i64 a, .int .u64 b, .int .u32 c, .pointer d, .slice y l k]) w := by kernel_rfl
theorem aLA (c : Int) (w : World) : (Instr.build 106 #[(2, .int .u32 c)]).run prog w = .ok (.agg #[.int .i64 0, .int .u64 0, .int .u32 c]) w := by kernel_rfl
theorem aP4 (B : Bp) (x : Bx) (s : Nat) (v : Value) (gs : List Int) (w : World) (H : aZ w B x) (ht : x.told) (G : jW s w v gs) (hl : gs.length <= 64) :
 Calls prog 27 #[.pointer (some ⟨B.b, 0, none⟩), v] w fun e w' => ∃ q gv, e = .returned (.tuple #[.pointer (some ⟨q, 0, none⟩), .int .i64 0]) /\ w.heap.size <= q /\ aT w' q B (pt0 x gs) gv /\ Below w.heap.size w w' := by
 have HR := Hd (aAN B x w H ht)
 have HCT := Hd (fun w' (g : jW s w' v gs) => aMT s v gs w' g hl)
 have HH := Hd H
 have HG := Hd G
 have hbp := aFU
 have hbc := aLA
 obtain ⟨y, cap, rfl, _, _, _⟩ := G
 have hd : decide ((64 : Int) < gs.length) = false := decide_eq_false (by omega)
 clear H ht hl
 go_enter func27, ntmps27
 go_wp2_with fail
 refine (HR.out).mono ?_
 rintro e w1 ⟨rfl, hb⟩
 have HH1 := Hd (HH.out.below hb)
 have HG1 := Hd (HG.out.below hb)
 have HB := Hd hb
 clear hb
 go_wp2_with fail
 refine (HCT.out _ HG1.out).mono ?_
 rintro e w2 ⟨gv, rfl, hg, hb⟩
 obtain ⟨yy, ll, cc, rfl⟩ := hg.own
 have HH2 := HH1.out.below hb
 have hb2 := tr HB.out hb
 clear hb HCT HG1 HH1 HB
 go_wp2_with fail
 go_ret2
 have hbx := aE (aH w2) (.cells (pcl (pt0 x gs) B.b (.slice yy ll cc)).toArray tPt (0, 0))
 exact ⟨_, _, rfl, hb2.size, ⟨aD w2 _, HH2.below hbx, hg.below hbx⟩, tr hb2 hbx⟩
theorem aEp (q : Nat) (y : Option Addr) (len cap : Nat) (w : World) (h : 64 < len) : Calls prog 40 #[.pointer (some ⟨q, 0, none⟩), .slice y len cap] w fun e w' => e = .returned (.int .i64 6) /\ Below w.heap.size w w' := by
 have hd : decide ((64 : Int) < len) = true := decide_eq_true (by omega)
 go_enter func40, ntmps40
 go_wp2_with fail
 go_ret
 exact ⟨rfl, aH _⟩
def Pt.gap' (p : Pt) (gs : List Int) : Pt := { p with gs := gs }
theorem aT.setG {w : World} {q : Nat} {B : Bp} {p : Pt} {gv gv' : Value} {gs : List Int} (H : aT w q B p gv) (G : jW 0 w gv' gs) : aT (w.setCell ⟨q, 4, none⟩ gv') q B (p.gap' gs) gv' := by
 refine ⟨?_, H.bd.off (aG w q 4 gv') fun k hk e => H.noB (e ▸ hk), G.off (aG w q 4 gv') fun k _ hk e => ?_⟩
 . rw [aR H.cell, gL]; rfl
 . rcases hk with hk | hk
   . omega
   . exact H.noG hk e
theorem aOc (q : Nat) (B : Bp) (p : Pt) (gv : Value) (s : Nat) (v : Value) (gs : List Int) (w : World) (H : aT w q B p gv) (G : jW s w v gs) (hl : gs.length <= 64) :
 Calls prog 40 #[.pointer (some ⟨q, 0, none⟩), v] w fun e w' => e = .returned (.int .i64 0) /\ ∃ gv', bA q B (p.gap' gs) gv' w w' := by
 have HCT := Hd (aMT s v gs w G hl)
 have HH := Hd H
 have hq := H.lt
 obtain ⟨y, cap, rfl, _, _, _⟩ := G
 have hd : decide ((64 : Int) < gs.length) = false := decide_eq_false (by omega)
 clear H hl
 go_enter func40, ntmps40
 go_wp2_with fail
 refine (HCT.out).mono ?_
 rintro e w2 ⟨gv', rfl, hg, hb⟩
 have HH2 := Hd (HH.out.below hb)
 have HO := Hd (aF.ofBelow (S := fun k => k = q \/ B.own k) hb)
 have HG2 := Hd hg
 clear hb HCT HH hg
 obtain ⟨yy, ll, cc, rfl⟩ := HG2.out.own
 have f4 := HH2.out.free 4
 have c4 := HH2.out.c4
 have hq2 := HH2.out.lt
 have HX := Hd (show bA q B (p.gap' gs) (.slice yy ll cc) w (w2.setCell ⟨q, 4, none⟩ (.slice yy ll cc)) from ⟨B.ev, HH2.out.setG HG2.out, HO.out.trans (aF.ofSetCell w2 ⟨q, 4, none⟩ (.slice yy ll cc) (.inl rfl)), fun k hk => .inl hk⟩)
 go_wp2_with fail
 go_ret
 exact ⟨rfl, _, HX.out⟩
theorem aEo (q : Nat) (w : World) : Calls prog 43 #[.pointer (some ⟨q, 0, none⟩), .pointer none] w fun e w' => e = .returned (.pointer none) /\ Below w.heap.size w w' := by
 go_enter func43, ntmps43
 go_wp2_with fail
 go_ret
 exact ⟨rfl, aH _⟩
theorem aOb (q : Nat) (B C : Bp) (p : Pt) (y : Bx) (gv : Value) (w : World) (H : aT w q B p gv) (HC : aZ w C y) (hl : p.gs.length <= 64) :
 Calls prog 43 #[.pointer (some ⟨q, 0, none⟩), .pointer (some ⟨C.b, 0, none⟩)] w fun e w' => ∃ q' gv', e = .returned (.pointer (some ⟨q', 0, none⟩)) /\ w.heap.size <= q' /\ aT w' q' C { p with x := y } gv' /\ Below w.heap.size w w' := by
 have HCT := Hd (fun w' (g : jW 0 w' gv p.gs) => aMT 0 gv p.gs w' g hl)
 have HH := Hd H
 have HHC := Hd HC
 have hbp := aFU
 obtain ⟨yy, cap, rfl, _, _, _⟩ := H.g
 have hX := Hd (show (fun w' : World => w'.heap[q]? = some (.cells #[.int .i64 p.md, .int .u64 p.sp, .int .u32 p.se, .pointer (some ⟨B.b, 0, none⟩), .slice yy p.gs.length cap] tPt (0, 0))) w.drew from H.cell)
 clear H HC hl
 go_enter func43, ntmps43
 go_upto_region 3 with (fail)
 refine wp_region_held_drew (S := fun w' => w'.heap[q]? = some (.cells #[.int .i64 p.md, .int .u64 p.sp, .int .u32 p.se, .pointer (some ⟨B.b, 0, none⟩), .slice yy p.gs.length cap] tPt (0, 0))) (by kernel_rfl) hX.out (fun _ => ?_)
 refine cW (i := 0) (v := .pointer (some ⟨q, 0, none⟩)) hX.out ?_
 simp only [dN, dP, dO, Act.put, bN, bP, bO]
 refine cW (i := 1) (v := .pointer (some ⟨q, 0, none⟩)) hX.out ?_
 simp only [dN, dP, dO, Act.put, bN, bP, bO]
 refine cW (i := 2) (v := .pointer (some ⟨q, 0, none⟩)) hX.out ?_
 simp only [dN, dP, dO, Act.put, bN, bP, bO]
 refine qM (i := 3) (v := .agg #[.int .i64 p.md, .int .u64 p.sp, .int .u32 p.se]) rfl (by kernel_rfl) (fun _ _ _ h => h) (fun w' hSw => by have c0 := aA hSw 0; have c1 := aA hSw 1; have c2 := aA hSw 2; simp only [List.getElem?_toArray, List.getElem?_cons_zero, List.getElem?_cons_succ] at c0 c1 c2; clear hSw; go_simp) hX.out ?_
 simp only [dN, dP, dO, Act.put, bN, bP, bO]
 refine cW (i := 4) (v := .pointer (some ⟨C.b, 0, none⟩)) hX.out ?_
 simp only [dN, dP, dO, Act.put, bN, bP, bO]
 refine cW (i := 5) (v := .pointer (some ⟨q, 0, none⟩)) hX.out ?_
 simp only [dN, dP, dO, Act.put, bN, bP, bO]
 refine cW (i := 6) (v := .pointer (some ⟨q, 0, none⟩)) hX.out ?_
 simp only [dN, dP, dO, Act.put, bN, bP, bO]
 refine cW (i := 7) (v := .pointer (some ⟨q, 4, none⟩)) hX.out ?_
 simp only [dN, dP, dO, Act.put, bN, bP, bO]
 refine qM (i := 8) (v := .slice yy p.gs.length cap) rfl (by kernel_rfl) (fun _ _ _ h => h) (fun w' hSw => by have c4 := aA hSw 4; simp only [List.getElem?_toArray, List.getElem?_cons_zero, List.getElem?_cons_succ] at c4; clear hSw; go_simp) hX.out ?_
 simp only [dN, dP, dO, Act.put, bN, bP, bO]
 refine lU (i := 9) (by kernel_rfl) rfl fun K hK => ?_
 go_simp
 go_wp2_with (go_at_call 64; refine (HCT.out _ (HH.out.g.below (jQ (aH w)))).mono ?_; rintro e w1 ⟨gv', rfl, hg, hb⟩; have hX := Hd (aC hb hX.out (lt_of_block hX.out)); have HB := Hd (tr (jQ (aH w)) hb); have HG := Hd hg; clear hb hg)
 obtain ⟨y2, l2, k2, rfl⟩ := HG.out.own
 refine hK.out _ _ hX.out (fun _ => ?_)
 clear hK K
 refine cW (i := 10) (v := .agg #[.int .i64 p.md, .int .u64 p.sp, .int .u32 p.se, .pointer (some ⟨C.b, 0, none⟩), .slice y2 l2 k2]) hX.out ?_
 simp only [dN, dP, dO, Act.put, bN, bP, bO]
 refine lU (i := 11) (by kernel_rfl) rfl fun K hK => ?_
 go_simp
 have hbx := aE (aH w1) (.cells (pcl { p with x := y } C.b (.slice y2 l2 k2)).toArray tPt (0, 0))
 have hF := Hd (show ∃ q' gv', (.returned (.pointer (some ⟨w1.heap.size, 0, none⟩)) : Ending) = .returned (.pointer (some ⟨q', 0, none⟩)) /\ w.heap.size <= q' /\ aT (w1.alloc (.cells (pcl { p with x := y } C.b (.slice y2 l2 k2)).toArray tPt (0, 0))) q' C { p with x := y } gv' /\ Below w.heap.size w (w1.alloc (.cells (pcl { p with x := y } C.b (.slice y2 l2 k2)).toArray tPt (0, 0))) from
  ⟨_, _, rfl, HB.out.size, ⟨aD w1 _, (HHC.out.below HB.out).below hbx, HG.out.below hbx⟩, tr HB.out hbx⟩)
 have hX2 := aC hbx hX.out (lt_of_block hX.out)
 clear hbx
 refine hK.out _ _ hX2 (fun _ => ?_)
 clear hK K
 refine cW (i := 12) (v := .pointer (some ⟨w1.heap.size, 0, none⟩)) hX2 ?_
 simp only [dN, dP, dO, Act.put, bN, bP, bO]
 refine wpAnyH_done (by kernel_rfl) ?_ _
 clear hX hX2 HB HG HH HHC HCT hbp
 go_wp2_with fail
 go_ret
 exact hF.out
end Go.Proofs.YtaohacadochldaaGreat.B
