/- A part of the proof of a law of layer 12: at. -/
import Derived.Test.YtealhichdbimlaaGreatZNas
import Derived.Laws.CopyOwn
set_option linter.unusedVariables false
set_option linter.unusedSimpArgs false
set_option maxHeartbeats 12800000
set_option maxRecDepth 100000
namespace Go.Proofs.YtealhichdbimlaaGreat.B
open Go.Proofs.Tryz
open Go.ChangeShapes Go.WideShapes Go.RowKit Go.Sort
abbrev qA : TypeId := 95
abbrev tCo : TypeId := 93
abbrev tU : TypeId := 27
abbrev tG : TypeId := 189
def gK (m : Nat) : Bool := m == tU + 1 || m == tG + 1
def fT (s : Nat) (w : World) (v : Value) (gs : List Int) : Prop := ∃ y cap, v = .slice y gs.length cap /\ gs.length <= cap /\ cap <= maxLen /\
 (gs.length = 0 \/ ∃ b off, y = some ⟨b, off, none⟩ /\ b < w.heap.size /\ (b < s \/ gK (kd w b) = true) /\ ∀ i g, gs[i]? = some g -> w.cell? ⟨b, off + i, none⟩ = some (.int .u32 g))
section
variable {s : Nat} {w w' : World} {v : Value} {gs : List Int}
theorem fT.one (h : fT s w v gs) : v.oneCell' = true := by obtain ⟨y, cap, rfl, _⟩ := h; rfl
theorem fT.keep (h : fT s w v gs) (hs : w.heap.size <= w'.heap.size) (hk : ∀ k, k < w.heap.size -> (k < s \/ gK (kd w k) = true) -> w'.heap[k]? = w.heap[k]?) : fT s w' v gs := by
 obtain ⟨y, cap, rfl, h1, h2, h3⟩ := h
 refine ⟨y, cap, rfl, h1, h2, h3.imp id ?_⟩
 rintro ⟨b, off, rfl, hb, hg, hc⟩
 have e := hk b hb hg
 refine ⟨b, off, rfl, Nat.lt_of_lt_of_le hb hs, hg.imp id fun hg => by rw [vJ e]; exact hg, fun i g hi => ?_⟩
 rw [<- hc i g hi]
 simp only [World.cell?, e]
theorem fT.below (h : fT s w v gs) (hb : Below w.heap.size w w') : fT s w' v gs := h.keep hb.size fun k hk _ => hb.block k hk
theorem fT.off {S : Nat -> Prop} (h : fT s w v gs) (ho : aE S w w') (hS : ∀ k, k < w.heap.size -> (k < s \/ gK (kd w k) = true) -> ¬ S k) : fT s w' v gs := h.keep ho.size fun k hk hg => ho.block k hk (hS k hk hg)
theorem kE {m : Nat} (h : gK m = true) : kO m = false /\ xP m = false /\ m ≠ qA + 1 := by
 unfold gK at h
 simp only [Bool.or_eq_true, beq_iff_eq] at h
 rcases h with rfl | rfl <;> exact ⟨by decide, by decide, by decide⟩
theorem fT.kp (h : fT s w v gs) (K : Kp w w') (lo : Below s w w') : fT s w' v gs := h.keep lo.size fun k hk hg => by
 rcases hg with hg | hg
 . exact lo.block k hg
 . unfold kd at hg
   cases e : w.heap[k]? with
   | none => rw [e] at hg; exact absurd (show gK 0 = true from hg) (by decide)
   | some o =>
     rw [e] at hg
     cases o with
     | cells cs T f => exact K k cs T f e (kE hg).1
     | _ => exact absurd (show gK 0 = true from hg) (by decide)
end
def pZ (p : Pt) (b : Nat) (gv : Value) : List Value := [.int .i64 p.md, .int .u64 p.sp, .int .u32 p.se, .pointer (some ⟨b, 0, none⟩), gv]
structure aS (w : World) (q : Nat) (B : Bp) (p : Pt) (gv : Value) : Prop where
 cell : w.heap[q]? = some (.cells (pZ p B.b gv).toArray qA (0, 0))
 bd : aU w B p.x
 g : fT 0 w gv p.gs
section
variable {w w' : World} {q : Nat} {B : Bp} {p : Pt} {gv : Value}
theorem aS.lt (H : aS w q B p gv) : q < w.heap.size := lt_of_block H.cell
theorem aS.below (H : aS w q B p gv) (hb : Below w.heap.size w w') : aS w' q B p gv := ⟨aB hb H.cell H.lt, H.bd.below hb, H.g.below hb⟩
theorem aS.free (H : aS w q B p gv) (j : Nat) : w.frozen? ⟨q, j, none⟩ = false := aG H.cell j
theorem aS.c0 (H : aS w q B p gv) : w.cell? ⟨q, 0, none⟩ = some (.int .i64 p.md) := by rw [aA H.cell 0]; rfl
theorem aS.c1 (H : aS w q B p gv) : w.cell? ⟨q, 1, none⟩ = some (.int .u64 p.sp) := by rw [aA H.cell 1]; rfl
theorem aS.c2 (H : aS w q B p gv) : w.cell? ⟨q, 2, none⟩ = some (.int .u32 p.se) := by rw [aA H.cell 2]; rfl
theorem aS.c3 (H : aS w q B p gv) : w.cell? ⟨q, 3, none⟩ = some (.pointer (some ⟨B.b, 0, none⟩)) := by rw [aA H.cell 3]; rfl
theorem aS.c4 (H : aS w q B p gv) : w.cell? ⟨q, 4, none⟩ = some gv := by rw [aA H.cell 4]; rfl
theorem aS.noB (H : aS w q B p gv) : ¬ B.all q := fun h => by have := H.bd.allKd h; rw [aX H.cell] at this; revert this; decide
theorem aS.noO (H : aS w q B p gv) : ¬ B.own q := fun h => H.noB (.inl h)
theorem fT.noO {s : Nat} {v : Value} {gs : List Int} (H : aU w B p.x) {k : Nat} (hk : gK (kd w k) = true) : ¬ B.all k := fun h => by have := H.allKd h; rw [(kE hk).2.1] at this; cases this
theorem aS.noG (H : aS w q B p gv) {k : Nat} (hk : gK (kd w k) = true) : k ≠ q := fun e => by rw [e, aX H.cell] at hk; revert hk; decide
end
theorem pI {n c : Nat} (x : Bx) (h : x.told) : x.ldv n c 268632068 = (x.es.length : Int) /\ Bx.lde n c 268632068 = 0 := by
 have e : wh 268632068 = .rs 4 := by unfold wh; rw [if_neg (by decide), if_neg (by decide), if_neg (by decide), if_neg (by decide), if_pos (by decide)]; rfl
 unfold Bx.ldv Bx.lde
 rw [e]
 constructor
 . show hI x.rs 4 = _
   rw [<- h]
   rfl
 . rfl
theorem oJ (B : Bp) (x : Bx) (w : World) (H : aU w B x) (ht : x.told) :
 Calls prog 48 #[.pointer (some ⟨B.b, 0, none⟩)] w fun e w' => e = .returned (.int .u32 x.es.length) /\ Below w.heap.size w w' := by
 have HL := Hd (qI B x 268632068 w H (by decide) (by decide))
 have hc := pI (n := B.n) (c := B.c) x ht
 rw [hc.1, hc.2] at HL
 clear hc ht H
 go_enter func48, ntmps48
 go_wp2_with (go_at_call 70; refine (HL.out).mono ?_; rintro e w1 ⟨rfl, hb1⟩)
 go_ret
 exact ⟨rfl, hb1⟩
theorem sZ (mk sp se t M : Int) (w : World) (hM : max se t = M) :
 Calls prog 47 #[.agg #[.int .i64 mk, .int .u64 sp, .int .u32 se], .int .u32 t] w fun e w' => e = .returned (.agg #[.int .i64 mk, .int .u64 sp, .int .u32 M]) /\ Below w.heap.size w w' := by
 subst hM
 have hb := aO (aO (aV w) (.cells #[.int .i64 mk, .int .u64 sp, .int .u32 (max se t)] tCo (0, 0))) (.cells #[.int .i64 mk, .int .u64 sp, .int .u32 (max se t)] tCo (0, 0))
 go_enter func47, ntmps47
 go_wp2_with fail
 refine bodyPost_ret (v := .agg #[.int .i64 mk, .int .u64 sp, .int .u32 (max se t)]) ?_ rfl ⟨rfl, hb⟩
 simp [results, results47, go_sem]
theorem iPt : (prog.info? 95).map (·.size) = some 5 := by kernel_rfl
section
variable {ops : Array Oper} {rest : List Oper} {o : Oper} {a : Act} {w : World} {Q : Exit -> Act -> World -> Prop}
theorem zN (hgd : o.guard = none) (x : Operand) (ho : o.op = .load 95 x) {b : Nat} (hx : a.eval x = .pointer (some ⟨b, 0, none⟩)) (vs : List Value) (hl : vs.length = 5) (hg : w.heap[b]? = some (.cells vs.toArray qA (0, 0)))
 (h : wpList prog ops Q rest (a.put o.dst (.agg vs.toArray)) w) : wpList prog ops Q (o :: rest) a w :=
 bJ hgd _ x ho b 0 hx _ vs hg underlying95 rfl (by rw [hl]; exact iPt) (bB _) h
theorem wK (hgd : o.guard = none) (x y : Operand) (ho : o.op = .store 95 x y) {b : Nat} (hx : a.eval x = .pointer (some ⟨b, 0, none⟩)) (vs us : List Value) (hl : vs.length = 5) (hu : us.length = 5) (h1 : ∀ v ∈ vs, v.oneCell' = true) (hy : a.eval y = .agg vs.toArray) (hg : w.heap[b]? = some (.cells us.toArray qA (0, 0)))
 (h : wpList prog ops Q rest (a.put o.dst undef) (w.setRow b vs.toArray)) : wpList prog ops Q (o :: rest) a w := by
 refine aT hgd _ x y ho b 0 hx vs hy hg (by rw [hl]; exact iPt) (by simp [hl, hu]) h1 ?_
 rw [bR _ _ (by simp [hl, hu])]
 exact h
theorem aBd {fn : Func} {p : Tmp} (h : fn.results = #[.cell p 95]) (tmps : Array Value) (w : World) {b : Nat} (vs : List Value) (hl : vs.length = 5) (hp : tmps[p]? = some (.pointer (some ⟨b, 0, none⟩))) (hg : w.heap[b]? = some (.cells vs.toArray qA (0, 0))) :
 (results fn tmps).run prog w = .ok (.agg vs.toArray) w :=
 bH h tmps w b 0 _ vs hp hg underlying95 rfl (by rw [hl]; exact iPt) (bB _)
end
def z5P : List Value := [.int .i64 0, .int .u64 0, .int .u32 0, .pointer none, .slice none 0 0]
theorem vV (p : Pt) (b : Nat) (gv : Value) (hg : gv.oneCell' = true) : ∀ v ∈ pZ p b gv, v.oneCell' = true := by
 intro v hv
 simp only [pZ, List.mem_cons, List.not_mem_nil, or_false] at hv
 rcases hv with rfl | rfl | rfl | rfl | rfl <;> first | rfl | exact hg
theorem aCX (q : Nat) (B : Bp) (p : Pt) (gv : Value) (w : World) (H : aS w q B p gv) :
 Calls prog 39 #[.pointer (some ⟨q, 0, none⟩)] w fun e w' => e = .returned (.agg #[.int .i64 p.md, .int .u64 p.sp, .int .u32 p.se, .pointer (some ⟨B.b, 0, none⟩), gv]) /\ Below w.heap.size w w' := by
 have hg : (w.alloc (.cells #[.int .i64 0, .int .u64 0, .int .u32 0, .pointer none, .slice none 0 0] 95)).heap[q]? = some (.cells (pZ p B.b gv).toArray qA (0, 0)) := (aH w _ H.lt).trans H.cell
 have hz : (w.alloc (.cells #[.int .i64 0, .int .u64 0, .int .u32 0, .pointer none, .slice none 0 0] 95)).heap[w.heap.size]? = some (.cells z5P.toArray qA (0, 0)) := aD w _
 have h1 := vV p B.b gv H.g.one
 have hs := cL (pZ p B.b gv).toArray hz
 have hb := aR (aO (aV w) (.cells #[.int .i64 0, .int .u64 0, .int .u32 0, .pointer none, .slice none 0 0] 95)) (pZ p B.b gv).toArray (g := w.heap.size) (Nat.le_refl _)
 go_enter func39, ntmps39
 go_wp2_with (first | (refine zN rfl (.tmp 7) rfl rfl (pZ p B.b gv) rfl hg ?_) | (refine wK rfl (.tmp 2) (.tmp 8) rfl rfl (pZ p B.b gv) z5P rfl rfl h1 rfl hz ?_))
 exact bodyPost_ret (aBd rfl _ _ (pZ p B.b gv) rfl rfl hs) rfl ⟨rfl, hb⟩
theorem fP0 (a0 a1 a2 a3 a4 : Value) (w : World) : (Instr.field 95 (.agg #[a0, a1, a2, a3, a4]) 0).run prog w = .ok (.agg #[a0, a1, a2]) w := by kernel_rfl
theorem fC0 (a0 a1 a2 : Value) (w : World) : (Instr.field 93 (.agg #[a0, a1, a2]) 0).run prog w = .ok a0 w := by kernel_rfl
theorem aBZ (q : Nat) (B : Bp) (p : Pt) (gv : Value) (w : World) (H : aS w q B p gv) :
 Calls prog 22 #[.pointer (some ⟨q, 0, none⟩)] w fun e w' => e = .returned (.int .i64 p.md) /\ Below w.heap.size w w' := by
 have hf0 := fP0
 have hf1 := fC0
 have HN := Hd (aCX q B p gv w H)
 clear H
 go_enter func22, ntmps22
 go_wp2_with fail
 refine (HN.out).mono ?_
 rintro e w1 ⟨rfl, hb⟩
 exact bX
theorem jC {P : Prop} (h : P := by
 rw [hd]
 clear hd H ht hse h
 go_enter func24, ntmps24
 go_upto_region 1 with (fail)
 refine wp_region_quiet_below (by kernel_rfl) (by kernel_rfl) ?_
 repeat (go_big_quiet_step (first
  | (go_at_call 48; exact Calls.regrown_of (HR.out _ (HH.out.bd.below (below_regrown w _ _))))
  | (go_at_call 47; exact Calls.regrown_of (HA.out _))))
 refine wpQuiet_nil ?_
 intro _ hw'
 obtain ⟨⟨dq, osq⟩, hw''⟩ := hw'
 subst hw''
 go_wp2_with fail
 go_ret
 exact ⟨rfl, below_regrown w _ _⟩
 ) : P := h
theorem jP (q : Nat) (B : Bp) (p : Pt) (gv : Value) (w : World) (H : aS w q B p gv) (ht : p.x.told) (hse : p.se <= p.x.es.length) :
 Calls prog 24 #[.pointer (some ⟨q, 0, none⟩)] w fun e w' => e = .returned (.bool p.dn) /\ Below w.heap.size w w' := by
 have HR := Hd (show ∀ w', aU w' B p.x -> _ from fun w' h => oJ B p.x w' h ht)
 have HH := Hd H
 have c0 := H.c0
 have c1 := H.c1
 have c2 := H.c2
 have c3 := H.c3
 have hq := H.lt
 have hg := bY
 have s0 := kS (p.md : Int)
 have s1 := kS p.sp
 by_cases h : p.se < p.x.es.length
 . have HA := Hd (fun w' => sZ p.md p.sp p.se p.x.es.length p.x.es.length w' (by omega))
   have hd : p.dn = true := by unfold Pt.dn; exact decide_eq_true h
   have hne : ((p.se : Int) == (p.x.es.length : Int)) = false := by simp; omega
   exact jC
 . have HA := Hd (fun w' => sZ p.md p.sp p.se p.x.es.length p.se w' (by omega))
   have hd : p.dn = false := by unfold Pt.dn; exact decide_eq_false h
   have s2 := kS (p.se : Int)
   exact jC
theorem aS.set {w : World} {q : Nat} {B : Bp} {p : Pt} {gv : Value} (H : aS w q B p gv) (j : Nat) (v : Value) (p' : Pt) (hx : p'.x = p.x) (hg : p'.gs = p.gs) (he : (pZ p B.b gv).set j v = pZ p' B.b gv) : aS (w.setCell ⟨q, j, none⟩ v) q B p' gv := by
 refine ⟨?_, hx ▸ H.bd.off (bE w q j v) fun k hk e => H.noB (e ▸ hk), hg ▸ H.g.off (bE w q j v) fun k _ hk e => ?_⟩
 . rw [aK H.cell, oL, he]
 . rcases hk with hk | hk
   . omega
   . exact H.noG hk e
def aI (q : Nat) (B : Bp) (p : Pt) (gv : Value) (w w' : World) : Prop := ∃ ev', aS w' q { B with ev := ev' } p gv /\ aE (fun k => k = q \/ B.own k) w w' /\ ∀ k, ev'.ownBlock = some k -> B.ev.ownBlock = some k \/ w.heap.size <= k
section
variable {w w' w'' : World} {q : Nat} {B : Bp} {p p2 : Pt} {gv gv2 : Value}
theorem aS.left (H : aS w q B p gv) (hb : Below w.heap.size w w') : aI q B p gv w w' := ⟨B.ev, H.below hb, aE.ofBelow hb, fun k hk => .inl hk⟩
theorem aI.from (ho : aE (fun k => k = q \/ B.own k) w w') (L : aI q B p gv w' w'') : aI q B p gv w w'' := by
 obtain ⟨ev', h, ho2, he⟩ := L
 exact ⟨ev', h, ho.trans ho2, fun k hk => (he k hk).imp id fun h => Nat.le_trans ho.size h⟩
theorem aI.below (L : aI q B p gv w w') (hb : Below w'.heap.size w' w'') : aI q B p gv w w'' := by
 obtain ⟨ev', h, ho, he⟩ := L
 exact ⟨ev', h.below hb, ho.trans (aE.ofBelow hb), he⟩
theorem aI.andThen {ev1 : Value} (ho : aE (fun k => k = q \/ B.own k) w w') (he1 : ∀ k, ev1.ownBlock = some k -> B.ev.ownBlock = some k \/ w.heap.size <= k) (L : aI q { B with ev := ev1 } p gv w' w'') : aI q B p gv w w'' := by
 obtain ⟨ev', h, ho2, he⟩ := L
 refine ⟨ev', h, ho.next ho2 ?_, fun k hk => ?_⟩
 . rintro i hi (hq | h1 | h1 | h1)
   . exact .inl hq
   . exact .inr (.inl h1)
   . exact .inr (.inr (.inl h1))
   . rcases he1 i h1 with h2 | h2
     . exact .inr (.inr (.inr h2))
     . omega
 . rcases he k hk with h1 | h1
   . exact he1 k h1
   . exact .inr (Nat.le_trans ho.size h1)
theorem aS.board {y : Bx} (H : aS w q B p gv) (L : dR B y w w') : aI q B { p with x := y } gv w w' := by
 have K := L.kp H.bd
 obtain ⟨ev', h, ho, he⟩ := L
 refine ⟨ev', ⟨ho.at H.cell H.noO, h, H.g.off ho fun k _ hk hS => ?_⟩, ho.mono fun k _ hk => .inr hk, he⟩
 rcases hk with hk | hk
 . omega
 . have := H.bd.ownKd hS; rw [(kE hk).1] at this; cases this
end
theorem wQ (k : Nat) (h : k < 4294967296) : IntKind.i64.wrap ((k : Int) + 1) = (k : Int) + 1 := by rw [IntKind.wrap_i64]; omega
theorem aCV (q : Nat) (B : Bp) (p : Pt) (gv : Value) (w : World) (H : aS w q B p gv) (hg : ∀ g ∈ p.gs, 0 <= g /\ g < 4294967296) :
 Calls prog 196 #[.pointer (some ⟨q, 0, none⟩)] w fun e w' => e = .returned (.int .u64 p.gp) /\ Below w.heap.size w w' := by
 obtain ⟨y, cap, rfl, h1, h2, h3⟩ := H.g
 have c0 := H.c0
 have c4 := H.c4
 have hq := H.lt
 by_cases hN : p.gs.length = 0
 . rw [Pt.gp_nil hN]
   rw [hN] at c4
   clear H h1 h2 h3 hg
   go_enter func196, ntmps196
   go_wp2_with fail
   go_ret
   exact ⟨rfl, aV _⟩
 . obtain ⟨b, off, rfl, hb, _, hc⟩ := h3.resolve_left hN
   obtain ⟨i, hi⟩ : ∃ i, p.md % p.gs.length = i := ⟨_, rfl⟩
   have hil : i < p.gs.length := by rw [<- hi]; exact Nat.mod_lt _ (by omega)
   obtain ⟨g, hgi⟩ : ∃ g, p.gs[i]? = some g := ⟨_, List.getElem?_eq_getElem hil⟩
   have hgb := hg g (List.mem_of_getElem? hgi)
   rw [Pt.gp_get hi hgi]
   have ci := hc i g hgi
   have hrem : (p.md : Int).tmod (p.gs.length : Int) = (i : Int) := by rw [<- hi, Int.tmod_eq_emod_of_nonneg (by omega)]; omega
   generalize p.gs.length = N at *
   have hne : ((N : Int) == 0) = false := by simp; omega
   have hgc := bY
   clear H h3 hg hc hi hgi
   go_enter func196, ntmps196
   go_upto_region 3 with (fail)
   refine wp_region_quiet_below (by kernel_rfl) (by kernel_rfl) ?_
   repeat (go_big_quiet_step (fail))
   refine wpQuiet_nil ?_
   intro _ hw'
   obtain ⟨⟨dq, osq⟩, hw''⟩ := hw'
   subst hw''
   go_wp2_with fail
   go_ret
   exact ⟨rfl, below_regrown w _ _⟩
theorem xD (q : Nat) (B : Bp) (p : Pt) (gv : Value) (m : Nat) (w : World) (H : aS w q B p gv) (ok : p.ok m) (hm : m < 4294967290) :
 Calls prog 129 #[.pointer (some ⟨q, 0, none⟩)] w fun e w' => e = .returned (.tuple #[]) /\ aI q B p.pass gv w w' := by
 have hgb := Pt.gp_bounds ok.gs
 have HG := Hd (fun w' h => aCV q B p gv w' h ok.gs)
 have HH := Hd H
 have hmd := ok.md
 have hs0 := ok.s0
 have hs1 := ok.s1
 have hel : p.x.es.length < 4294967296 := by have := ok.es; omega
 have hw1 : IntKind.i64.wrap ((p.md : Int) + 1) = ((p.md : Int) + 1) := wQ p.md (by omega)
 have hw2 : IntKind.u64.wrap (p.sp + p.gp) = p.sp + p.gp := IntWalk.u64_in _ (by omega)
 have HPP := Hd (show p.pass = { p with md := p.md + 1, sp := p.sp + p.gp, x := p.x.tick p.gp } from rfl)
 have HEL := Hd hel
 have HGB := Hd hgb
 clear H ok hm hmd hs0 hs1 hel hgb
 generalize p.gp = g at *
 go_enter func129, ntmps129
 go_wp2_with fail
 refine (HG.out _ HH.out).mono ?_
 rintro e w1 ⟨rfl, hb⟩
 have HH1 := Hd (HH.out.below hb)
 have HO := Hd (aE.ofBelow (S := fun k => k = q \/ B.own k) hb)
 have c0 := HH1.out.c0
 have c1 := HH1.out.c1
 have c3 := HH1.out.c3
 have f0 := HH1.out.free 0
 have f1 := HH1.out.free 1
 have hq := HH1.out.lt
 clear hb HG HH
 go_upto_region 3 with (fail)
 have H2 := (HH1.out.set 0 (.int .i64 ((p.md : Int) + 1)) { p with md := p.md + 1 } rfl rfl rfl).set 1 (.int .u64 (p.sp + g)) { p with md := p.md + 1, sp := p.sp + g } rfl rfl rfl
 have O2 := (HO.out.trans (aE.ofSetCell w1 ⟨q, 0, none⟩ (.int .i64 ((p.md : Int) + 1)) (.inl rfl))).trans (aE.ofSetCell (S := fun k => k = q \/ B.own k) (w1.setCell ⟨q, 0, none⟩ (.int .i64 ((p.md : Int) + 1))) ⟨q, 1, none⟩ (.int .u64 (p.sp + g)) (.inl rfl))
 clear c0 c1 c3 f0 f1 hq HH1 HO hw1 hw2
 generalize (w1.setCell ⟨q, 0, none⟩ (.int .i64 ((p.md : Int) + 1))).setCell ⟨q, 1, none⟩ (.int .u64 (p.sp + g)) = W at *
 have HH2 := Hd H2
 have HO2 := Hd O2
 have c3 := H2.c3
 clear H2 O2
 go_wp2_with fail
 refine (qJ B p.x g _ HH2.out.bd HGB.out.1 (by have := HGB.out.2; omega) HEL.out).mono ?_
 rintro e w2 ⟨rfl, hL⟩
 have HX := Hd (aI.from HO2.out (HH2.out.board hL))
 clear c3 hL
 go_wp2_with fail
 go_end0
 exact ⟨rfl, by rw [HPP.out]; exact HX.out⟩
def g64 : Obj := .cells #[.int .u32 0, .int .u32 0, .int .u32 0, .int .u32 0, .int .u32 0, .int .u32 0, .int .u32 0, .int .u32 0, .int .u32 0, .int .u32 0, .int .u32 0, .int .u32 0, .int .u32 0, .int .u32 0, .int .u32 0, .int .u32 0, .int .u32 0, .int .u32 0, .int .u32 0, .int .u32 0, .int .u32 0, .int .u32 0, .int .u32 0, .int .u32 0, .int .u32 0, .int .u32 0, .int .u32 0, .int .u32 0, .int .u32 0, .int .u32 0, .int .u32 0, .int .u32 0, .int .u32 0, .int .u32 0, .int .u32 0, .int .u32 0, .int .u32 0, .int .u32 0, .int .u32 0, .int .u32 0, .int .u32 0, .int .u32 0, .int .u32 0, .int .u32 0, .int .u32 0, .int .u32 0, .int .u32 0, .int .u32 0, .int .u32 0, .int .u32 0, .int .u32 0, .int .u32 0, .int .u32 0, .int .u32 0, .int .u32 0, .int .u32 0, .int .u32 0, .int .u32 0, .int .u32 0, .int .u32 0, .int .u32 0, .int .u32 0, .int .u32 0, .int .u32 0] tG (0, 0)
theorem yZ : Obj.cells #[.int .u32 0, .int .u32 0, .int .u32 0, .int .u32 0, .int .u32 0, .int .u32 0, .int .u32 0, .int .u32 0, .int .u32 0, .int .u32 0, .int .u32 0, .int .u32 0, .int .u32 0, .int .u32 0, .int .u32 0, .int .u32 0, .int .u32 0, .int .u32 0, .int .u32 0, .int .u32 0, .int .u32 0, .int .u32 0, .int .u32 0, .int .u32 0, .int .u32 0, .int .u32 0, .int .u32 0, .int .u32 0, .int .u32 0, .int .u32 0, .int .u32 0, .int .u32 0, .int .u32 0, .int .u32 0, .int .u32 0, .int .u32 0, .int .u32 0, .int .u32 0, .int .u32 0, .int .u32 0, .int .u32 0, .int .u32 0, .int .u32 0, .int .u32 0, .int .u32 0, .int .u32 0, .int .u32 0, .int .u32 0, .int .u32 0, .int .u32 0, .int .u32 0, .int .u32 0, .int .u32 0, .int .u32 0, .int .u32 0, .int .u32 0, .int .u32 0, .int .u32 0, .int .u32 0, .int .u32 0, .int .u32 0, .int .u32 0, .int .u32 0, .int .u32 0] 189 (0, 0) = g64 := rfl
theorem wZ : g64 = .cells (List.replicate 64 (Value.int .u32 0)).toArray tG (0, 0) := by kernel_rfl
def fM (gs : List Int) : List Value := gs.map fun g => .int .u32 g
theorem rN (gs : List Int) : ∀ v ∈ fM gs, v.oneCell' = true := by
 intro v h
 obtain ⟨g, _, rfl⟩ := List.mem_map.1 h
 rfl
theorem rM {gs : List Int} {j : Nat} {v : Value} (h : (fM gs)[j]? = some v) : ∃ g, gs[j]? = some g /\ v = .int .u32 g := by
 unfold fM at h
 rw [List.getElem?_map] at h
 cases e : gs[j]? with
 | none => rw [e] at h; cases h
 | some g => rw [e] at h; exact ⟨g, rfl, by simpa using h.symm⟩
theorem lE (g o i : Nat) : (⟨g, o, none⟩ : Addr).add i = ⟨g, o + i, none⟩ := by unfold Addr.add; split <;> simp_all
theorem rL {s : Nat} {w : World} {y : Option Addr} {cap : Nat} {gs : List Int} (h : gs.length = 0 \/ ∃ b off, y = some ⟨b, off, none⟩ /\ b < w.heap.size /\ (b < s \/ gK (kd w b) = true) /\ ∀ i g, gs[i]? = some g -> w.cell? ⟨b, off + i, none⟩ = some (.int .u32 g)) {w' : World} (hb : Below w.heap.size w w') (hp : 0 < (fM gs).length) :
 ∃ ad, y = some ad /\ ∀ j v, (fM gs)[j]? = some v -> w'.cell? (ad.add j) = some v := by
 rcases h with h | ⟨b, off, rfl, h1, _, h2⟩
 . unfold fM at hp; rw [List.length_map] at hp; omega
 . refine ⟨_, rfl, fun j v hj => ?_⟩
   obtain ⟨g, hg, rfl⟩ := rM hj
   rw [lE, hb.cell (p := ⟨b, off + j, none⟩) h1]
   exact h2 j g hg
theorem zA {w : World} {a n : Nat} {gs : List Int} (hn : gs.length = n) (hl : n <= 64) (h : w.heap[a]? = some (.cells (Go.splice (List.replicate 64 (Value.int .u32 0)) 0 (fM gs)).toArray tG (0, 0))) : fT 0 w (.slice (some ⟨a, 0, none⟩) n n) gs := by
 subst hn
 refine ⟨_, _, rfl, Nat.le_refl _, by unfold maxLen; omega, .inr ⟨a, 0, rfl, lt_of_block h, .inr ?_, fun i g hi => ?_⟩⟩
 . rw [aX h]; decide
 . have hil : i < gs.length := (List.getElem?_eq_some_iff.1 hi).1
   rw [aA h, Nat.zero_add, List.getElem?_toArray]
   unfold Go.splice
   rw [List.take_zero, List.nil_append, List.getElem?_append_left (by unfold fM; rw [List.length_map]; exact hil)]
   unfold fM
   rw [List.getElem?_map, hi]
   rfl
theorem wG (a n : Nat) (hl : n <= 64) (w : World) : (Instr.sliceAt 189 (.pointer (some ⟨a, 0, none⟩)) none (some (.int .i64 n)) (some (.int .i64 n))).run prog w = .ok (.slice (some ⟨a, 0, none⟩) n n) w := by
 have hal : prog.arrayLen 189 = 64 := by kernel_rfl
 have hel : prog.elem 189 = tU := by kernel_rfl
 have hs : ∀ w, (sizeOf tU).run prog w = .ok 1 w := fun w => by kernel_rfl
 rw [run_sliceAt_array_hm (P := prog) w 189 ⟨a, 0, none⟩ (by rw [hal, hel]; exact underlying189) .i64 .i64 n n (by omega) (Int.le_refl _) (by rw [hal]; omega), hel, hs]
 simp only [Result.andThen_ok, slicedAt, Int.toNat_natCast, Nat.sub_zero, Nat.zero_mul, lE, Nat.add_zero, ite_self]
theorem aCU (s : Nat) (v : Value) (gs : List Int) (w : World) (G : fT s w v gs) (hl : gs.length <= 64) :
 Calls prog 51 #[v] w fun e w' => ∃ v', e = .returned v' /\ fT 0 w' v' gs /\ Below w.heap.size w w' := by
 obtain ⟨y, cap, rfl, h1, h2, h3⟩ := G
 have hal : prog.arrayLen 189 = 64 := by kernel_rfl
 have hz := aD w g64
 rw [wZ] at hz
 have hb := aO (aV w) g64
 have hcs := Hd (fun hp => rL h3 (cap := cap) hb hp)
 have hcl : (fM gs).length = gs.length := by unfold fM; rw [List.length_map]
 have h1c := rN gs
 obtain ⟨n, hn⟩ : ∃ n, gs.length = n := ⟨_, rfl⟩
 have HE := Hd (fun (w' : World) h => zA (w := w') (a := w.heap.size) hn (hn ▸ hl) h)
 rw [hn] at hl hcl h1 
 obtain ⟨L, hL⟩ : ∃ L, L = List.replicate 64 (Value.int .u32 0) := ⟨_, rfl⟩
 have hLl : L.length = 64 := by rw [hL, List.length_replicate]
 have hgl : g64 = .cells L.toArray tG (0, 0) := by rw [wZ, hL]
 rw [<- hL] at hz HE
 rw [hgl] at hb hcs
 have HZ := Hd hz
 have HB := Hd hb
 clear h3 hL hz hb
 go_enter func51, ntmps51
 rw [hn]
 go_upto_region 2 with (fail)
 rw [yZ, hgl]
 clear hgl
 generalize w.alloc (.cells L.toArray tG (0, 0)) = W at *
 have hc2 : (fM gs).length = Nat.min n 64 := by rw [hcl]; exact (Nat.min_eq_left hl).symm
 have hfit : 0 + (fM gs).length <= L.length := by omega
 go_upto_region 3 with (refine wpList_copy_splice rfl (.tmp 5) (.tmp 6) 23 23 rfl tU underlying23 (by kernel_rfl) _ _ 64 64 n cap rfl rfl w.heap.size 0 L tG HZ.out (fM gs) hc2 (fun hp => ⟨rfl, hcs.out hp⟩) hfit h1c w.heap.size w HB.out (Nat.le_refl _) ?_; intro w2 hz2 hb2)
 have hsl := wG w.heap.size n hl
 have hv := HE.out w2 hz2.out
 clear hcs HZ HB hc2 hfit hz2 HE hcl hl h1 h2
 go_wp2_with fail
 go_ret
 exact ⟨_, rfl, hv, hb2⟩
theorem fT.own {s : Nat} {w : World} {v : Value} {gs : List Int} (h : fT s w v gs) : ∃ y len cap, v = .slice y len cap := by obtain ⟨y, cap, rfl, _⟩ := h; exact ⟨_, _, _, rfl⟩
def pt0 (x : Bx) (gs : List Int) : Pt := ⟨x, gs, 0, 0, x.es.length⟩
theorem xV (a b c : Int) (d : Option Addr) (y : Option Addr) (l k : Nat) (w : World) : (Instr.build 95 #[(0, .agg #[.int .i64 a, .int .u64 b, .int .u32 c]), (1, .pointer d), (2, .slice y l k)]).run prog w = .ok (.agg #[.int .i64 a, .int .u64 b, .int .u32 c, .pointer d, .slice y l k]) w := by kernel_rfl
theorem xU (c : Int) (w : World) : (Instr.build 93 #[(2, .int .u32 c)]).run prog w = .ok (.agg #[.int .i64 0, .int .u64 0, .int .u32 c]) w := by kernel_rfl
theorem aCW (B : Bp) (x : Bx) (s : Nat) (v : Value) (gs : List Int) (w : World) (H : aU w B x) (ht : x.told) (G : fT s w v gs) (hl : gs.length <= 64) :
 Calls prog 26 #[.pointer (some ⟨B.b, 0, none⟩), v] w fun e w' => ∃ q gv, e = .returned (.tuple #[.pointer (some ⟨q, 0, none⟩), .int .i64 0]) /\ w.heap.size <= q /\ aS w' q B (pt0 x gs) gv /\ Below w.heap.size w w' := by
 have HR := Hd (oJ B x w H ht)
 have HCT := Hd (fun w' (g : fT s w' v gs) => aCU s v gs w' g hl)
 have HH := Hd H
 have HG := Hd G
 have hbp := xV
 have hbc := xU
 obtain ⟨y, cap, rfl, _, _, _⟩ := G
 have hd : decide ((64 : Int) < gs.length) = false := decide_eq_false (by omega)
 clear H ht hl
 go_enter func26, ntmps26
 go_wp2_with fail
 refine (HR.out).mono ?_
 rintro e w1 ⟨rfl, hb⟩
 have HH1 := Hd (HH.out.below hb)
 have HG1 := Hd (HG.out.below hb)
 have HB := Hd hb
 clear hb
 go_wp2_with fail
 refine (HCT.out _ HG1.out).mono ?_
 rintro e w2 ⟨gv, rfl, hg, hb⟩
 obtain ⟨yy, ll, cc, rfl⟩ := hg.own
 have HH2 := HH1.out.below hb
 have hb2 := tr HB.out hb
 clear hb HCT HG1 HH1 HB
 go_wp2_with fail
 go_ret2
 have hbx := aO (aV w2) (.cells (pZ (pt0 x gs) B.b (.slice yy ll cc)).toArray qA (0, 0))
 exact ⟨_, _, rfl, hb2.size, ⟨aD w2 _, HH2.below hbx, hg.below hbx⟩, tr hb2 hbx⟩
section
variable {P : Program} {ops : Array Oper} {md : Region.Mode} {C : World -> Prop}
end
end Go.Proofs.YtealhichdbimlaaGreat.B
