/- A part of the proof of a law of layer 12: ba. -/
import Derived.Test.YtpojmmgokgamgaaGreatZYaz
import Derived.Laws.CopyOwn
set_option linter.unusedVariables false
set_option linter.unusedSimpArgs false
set_option maxHeartbeats 12800000
set_option maxRecDepth 100000
namespace Go.Proofs.YtpojmmgokgamgaaGreat.B
open Go.Proofs.Tryz
open Go.ChangeShapes Go.WideShapes Go.RowKit Go.Sort
abbrev zP : TypeId := 85
abbrev tCo : TypeId := 82
abbrev tU : TypeId := 22
abbrev tG : TypeId := 125
def gK (m : Nat) : Bool := m == tU + 1 || m == tG + 1
def kY (s : Nat) (w : World) (v : Value) (gs : List Int) : Prop := ∃ y cap, v = .slice y gs.length cap /\ gs.length <= cap /\ cap <= maxLen /\
 (gs.length = 0 \/ ∃ b off, y = some ⟨b, off, none⟩ /\ b < w.heap.size /\ (b < s \/ gK (kd w b) = true) /\ ∀ i g, gs[i]? = some g -> w.cell? ⟨b, off + i, none⟩ = some (.int .u32 g))
section
variable {s : Nat} {w w' : World} {v : Value} {gs : List Int}
theorem kY.one (h : kY s w v gs) : v.oneCell' = true := by obtain ⟨y, cap, rfl, _⟩ := h; rfl
theorem kY.keep (h : kY s w v gs) (hs : w.heap.size <= w'.heap.size) (hk : ∀ k, k < w.heap.size -> (k < s \/ gK (kd w k) = true) -> w'.heap[k]? = w.heap[k]?) : kY s w' v gs := by
 obtain ⟨y, cap, rfl, h1, h2, h3⟩ := h
 refine ⟨y, cap, rfl, h1, h2, h3.imp id ?_⟩
 rintro ⟨b, off, rfl, hb, hg, hc⟩
 have e := hk b hb hg
 refine ⟨b, off, rfl, Nat.lt_of_lt_of_le hb hs, hg.imp id fun hg => by rw [aIc e]; exact hg, fun i g hi => ?_⟩
 rw [<- hc i g hi]
 simp only [World.cell?, e]
theorem kY.below (h : kY s w v gs) (hb : Below w.heap.size w w') : kY s w' v gs := h.keep hb.size fun k hk _ => hb.block k hk
theorem kY.off {S : Nat -> Prop} (h : kY s w v gs) (ho : aF S w w') (hS : ∀ k, k < w.heap.size -> (k < s \/ gK (kd w k) = true) -> ¬ S k) : kY s w' v gs := h.keep ho.size fun k hk hg => ho.block k hk (hS k hk hg)
theorem aBe {m : Nat} (h : gK m = true) : aAk m = false /\ aEX m = false /\ m ≠ zP + 1 := by
 unfold gK at h
 simp only [Bool.or_eq_true, beq_iff_eq] at h
 rcases h with rfl | rfl <;> exact ⟨by decide, by decide, by decide⟩
end
def pcl (p : Pt) (b : Nat) (gv : Value) : List Value := [.int .i64 p.md, .int .u64 p.sp, .int .u32 p.se, .pointer (some ⟨b, 0, none⟩), gv]
structure aY (w : World) (q : Nat) (B : Bp) (p : Pt) (gv : Value) : Prop where
 cell : w.heap[q]? = some (.cells (pcl p B.b gv).toArray zP (0, 0))
 bd : bC w B p.x
 g : kY 0 w gv p.gs
section
variable {w w' : World} {q : Nat} {B : Bp} {p : Pt} {gv : Value}
theorem aY.lt (H : aY w q B p gv) : q < w.heap.size := lt_of_block H.cell
theorem aY.below (H : aY w q B p gv) (hb : Below w.heap.size w w') : aY w' q B p gv := ⟨aC hb H.cell H.lt, H.bd.below hb, H.g.below hb⟩
theorem aY.free (H : aY w q B p gv) (j : Nat) : w.frozen? ⟨q, j, none⟩ = false := aN H.cell j
theorem aY.c0 (H : aY w q B p gv) : w.cell? ⟨q, 0, none⟩ = some (.int .i64 p.md) := by rw [aA H.cell 0]; rfl
theorem aY.c1 (H : aY w q B p gv) : w.cell? ⟨q, 1, none⟩ = some (.int .u64 p.sp) := by rw [aA H.cell 1]; rfl
theorem aY.c2 (H : aY w q B p gv) : w.cell? ⟨q, 2, none⟩ = some (.int .u32 p.se) := by rw [aA H.cell 2]; rfl
theorem aY.c3 (H : aY w q B p gv) : w.cell? ⟨q, 3, none⟩ = some (.pointer (some ⟨B.b, 0, none⟩)) := by rw [aA H.cell 3]; rfl
theorem aY.c4 (H : aY w q B p gv) : w.cell? ⟨q, 4, none⟩ = some gv := by rw [aA H.cell 4]; rfl
theorem aY.noB (H : aY w q B p gv) : ¬ B.all q := fun h => by have := H.bd.allKd h; rw [bP H.cell] at this; revert this; decide
theorem aY.noO (H : aY w q B p gv) : ¬ B.own q := fun h => H.noB (.inl h)
theorem aY.noG (H : aY w q B p gv) {k : Nat} (hk : gK (kd w k) = true) : k ≠ q := fun e => by rw [e, bP H.cell] at hk; revert hk; decide
end
theorem aDn {n c : Nat} (x : Bx) (h : x.told) : x.ldv n c 268632068 = (x.es.length : Int) /\ Bx.lde n c 268632068 = 0 := by
 have e : wh 268632068 = .rs 4 := by unfold wh; rw [if_neg (by decide), if_neg (by decide), if_neg (by decide), if_neg (by decide), if_pos (by decide)]; rfl
 unfold Bx.ldv Bx.lde
 rw [e]
 constructor
 . show gP x.rs 4 = _
   rw [<- h]
   rfl
 . rfl
theorem zB (B : Bp) (x : Bx) (w : World) (H : bC w B x) (ht : x.told) :
 Calls prog 25 #[.pointer (some ⟨B.b, 0, none⟩)] w fun e w' => e = .returned (.int .u32 x.es.length) /\ Below w.heap.size w w' := by
 have HL := Hd (aBh B x 268632068 w H (by decide) (by decide))
 have hc := aDn (n := B.n) (c := B.c) x ht
 rw [hc.1, hc.2] at HL
 clear hc ht H
 go_enter func25, ntmps25
 go_wp2_with (go_at_call 41; refine (HL.out).mono ?_; rintro e w1 ⟨rfl, hb1⟩)
 go_ret
 exact ⟨rfl, hb1⟩
theorem aB6 (mk sp se t M : Int) (w : World) (hM : max se t = M) :
 Calls prog 38 #[.agg #[.int .i64 mk, .int .u64 sp, .int .u32 se], .int .u32 t] w fun e w' => e = .returned (.agg #[.int .i64 mk, .int .u64 sp, .int .u32 M]) /\ Below w.heap.size w w' := by
 subst hM
 have hb := aE (aE (aI w) (.cells #[.int .i64 mk, .int .u64 sp, .int .u32 (max se t)] tCo (0, 0))) (.cells #[.int .i64 mk, .int .u64 sp, .int .u32 (max se t)] tCo (0, 0))
 go_enter func38, ntmps38
 go_wp2_with fail
 refine bodyPost_ret (v := .agg #[.int .i64 mk, .int .u64 sp, .int .u32 (max se t)]) ?_ rfl ⟨rfl, hb⟩
 simp [results, results38, go_sem]
theorem iPt : (prog.info? 85).map (·.size) = some 5 := by kernel_rfl
section
variable {ops : Array Oper} {rest : List Oper} {o : Oper} {a : Act} {w : World} {Q : Exit -> Act -> World -> Prop}
theorem aKD (hgd : o.guard = none) (x : Operand) (ho : o.op = .load 85 x) {b : Nat} (hx : a.eval x = .pointer (some ⟨b, 0, none⟩)) (vs : List Value) (hl : vs.length = 5) (hg : w.heap[b]? = some (.cells vs.toArray zP (0, 0)))
 (h : wpList prog ops Q rest (a.put o.dst (.agg vs.toArray)) w) : wpList prog ops Q (o :: rest) a w :=
 aL hgd _ x ho b 0 hx _ vs hg underlying85 rfl (by rw [hl]; exact iPt) (aM _) h
theorem aIP (hgd : o.guard = none) (x y : Operand) (ho : o.op = .store 85 x y) {b : Nat} (hx : a.eval x = .pointer (some ⟨b, 0, none⟩)) (vs us : List Value) (hl : vs.length = 5) (hu : us.length = 5) (h1 : ∀ v ∈ vs, v.oneCell' = true) (hy : a.eval y = .agg vs.toArray) (hg : w.heap[b]? = some (.cells us.toArray zP (0, 0)))
 (h : wpList prog ops Q rest (a.put o.dst undef) (w.setRow b vs.toArray)) : wpList prog ops Q (o :: rest) a w := by
 refine aH hgd _ x y ho b 0 hx vs hy hg (by rw [hl]; exact iPt) (by simp [hl, hu]) h1 ?_
 rw [aV _ _ (by simp [hl, hu])]
 exact h
theorem aOB {fn : Func} {p : Tmp} (h : fn.results = #[.cell p 85]) (tmps : Array Value) (w : World) {b : Nat} (vs : List Value) (hl : vs.length = 5) (hp : tmps[p]? = some (.pointer (some ⟨b, 0, none⟩))) (hg : w.heap[b]? = some (.cells vs.toArray zP (0, 0))) :
 (results fn tmps).run prog w = .ok (.agg vs.toArray) w :=
 aU h tmps w b 0 _ vs hp hg underlying85 rfl (by rw [hl]; exact iPt) (aM _)
end
def z5P : List Value := [.int .i64 0, .int .u64 0, .int .u32 0, .pointer none, .slice none 0 0]
theorem aIl (p : Pt) (b : Nat) (gv : Value) (hg : gv.oneCell' = true) : ∀ v ∈ pcl p b gv, v.oneCell' = true := by
 intro v hv
 simp only [pcl, List.mem_cons, List.not_mem_nil, or_false] at hv
 rcases hv with rfl | rfl | rfl | rfl | rfl <;> first | rfl | exact hg
theorem aK4 (q : Nat) (B : Bp) (p : Pt) (gv : Value) (w : World) (H : aY w q B p gv) :
 Calls prog 27 #[.pointer (some ⟨q, 0, none⟩)] w fun e w' => e = .returned (.agg #[.int .i64 p.md, .int .u64 p.sp, .int .u32 p.se, .pointer (some ⟨B.b, 0, none⟩), gv]) /\ Below w.heap.size w w' := by
 have hg : (w.alloc (.cells #[.int .i64 0, .int .u64 0, .int .u32 0, .pointer none, .slice none 0 0] 85)).heap[q]? = some (.cells (pcl p B.b gv).toArray zP (0, 0)) := (aX w _ H.lt).trans H.cell
 have hz : (w.alloc (.cells #[.int .i64 0, .int .u64 0, .int .u32 0, .pointer none, .slice none 0 0] 85)).heap[w.heap.size]? = some (.cells z5P.toArray zP (0, 0)) := aD w _
 have h1 := aIl p B.b gv H.g.one
 have hs := aT (pcl p B.b gv).toArray hz
 have hb := aB (aE (aI w) (.cells #[.int .i64 0, .int .u64 0, .int .u32 0, .pointer none, .slice none 0 0] 85)) (pcl p B.b gv).toArray (g := w.heap.size) (Nat.le_refl _)
 go_enter func27, ntmps27
 go_wp2_with (first | (refine aKD rfl (.tmp 7) rfl rfl (pcl p B.b gv) rfl hg ?_) | (refine aIP rfl (.tmp 2) (.tmp 8) rfl rfl (pcl p B.b gv) z5P rfl rfl h1 rfl hz ?_))
 exact bodyPost_ret (aOB rfl _ _ (pcl p B.b gv) rfl rfl hs) rfl ⟨rfl, hb⟩
theorem fP0 (a0 a1 a2 a3 a4 : Value) (w : World) : (Instr.field 85 (.agg #[a0, a1, a2, a3, a4]) 0).run prog w = .ok (.agg #[a0, a1, a2]) w := by kernel_rfl
theorem fP1 (a0 a1 a2 a3 a4 : Value) (w : World) : (Instr.field 85 (.agg #[a0, a1, a2, a3, a4]) 1).run prog w = .ok a3 w := by kernel_rfl
theorem fC0 (a0 a1 a2 : Value) (w : World) : (Instr.field 82 (.agg #[a0, a1, a2]) 0).run prog w = .ok a0 w := by kernel_rfl
theorem fC1 (a0 a1 a2 : Value) (w : World) : (Instr.field 82 (.agg #[a0, a1, a2]) 1).run prog w = .ok a1 w := by kernel_rfl
theorem fC2 (a0 a1 a2 : Value) (w : World) : (Instr.field 82 (.agg #[a0, a1, a2]) 2).run prog w = .ok a2 w := by kernel_rfl
theorem aG9 (q : Nat) (B : Bp) (p : Pt) (gv : Value) (w : World) (H : aY w q B p gv) :
 Calls prog 15 #[.pointer (some ⟨q, 0, none⟩)] w fun e w' => e = .returned (.int .u64 p.sp) /\ Below w.heap.size w w' := by
 have hf0 := fP0
 have hf1 := fC1
 have HN := Hd (aK4 q B p gv w H)
 clear H
 go_enter func15, ntmps15
 go_wp2_with fail
 refine (HN.out).mono ?_
 rintro e w1 ⟨rfl, hb⟩
 exact bO
theorem aNv (q : Nat) (B : Bp) (p : Pt) (gv : Value) (w : World) (H : aY w q B p gv) :
 Calls prog 16 #[.pointer (some ⟨q, 0, none⟩)] w fun e w' => e = .returned (.int .i64 p.md) /\ Below w.heap.size w w' := by
 have hf0 := fP0
 have hf1 := fC0
 have HN := Hd (aK4 q B p gv w H)
 clear H
 go_enter func16, ntmps16
 go_wp2_with fail
 refine (HN.out).mono ?_
 rintro e w1 ⟨rfl, hb⟩
 exact bO
theorem xW (q : Nat) (B : Bp) (p : Pt) (gv : Value) (w : World) (H : aY w q B p gv) :
 Calls prog 10 #[.pointer (some ⟨q, 0, none⟩)] w fun e w' => e = .returned (.pointer (some ⟨B.b, 0, none⟩)) /\ Below w.heap.size w w' := by
 have hf0 := fP1
 have HN := Hd (aK4 q B p gv w H)
 clear H
 go_enter func10, ntmps10
 go_wp2_with fail
 refine (HN.out).mono ?_
 rintro e w1 ⟨rfl, hb⟩
 exact bO
theorem xJ {P : Prop} (h : P := by
 rw [hd]
 clear hd H ht hse h
 go_enter func14, ntmps14
 go_upto_region 1 with (fail)
 refine wp_region_quiet_below (by kernel_rfl) (by kernel_rfl) ?_
 repeat (go_big_quiet_step (first
  | (go_at_call 25; exact Calls.regrown_of (HR.out _ (HH.out.bd.below (below_regrown w _ _))))
  | (go_at_call 38; exact Calls.regrown_of (HA.out _))))
 refine wpQuiet_nil ?_
 intro _ hw'
 obtain ⟨⟨dq, osq⟩, hw''⟩ := hw'
 subst hw''
 go_wp2_with fail
 go_ret
 exact ⟨rfl, below_regrown w _ _⟩
 ) : P := h
theorem sS (q : Nat) (B : Bp) (p : Pt) (gv : Value) (w : World) (H : aY w q B p gv) (ht : p.x.told) (hse : p.se <= p.x.es.length) :
 Calls prog 14 #[.pointer (some ⟨q, 0, none⟩)] w fun e w' => e = .returned (.bool p.dn) /\ Below w.heap.size w w' := by
 have HR := Hd (show ∀ w', bC w' B p.x -> _ from fun w' h => zB B p.x w' h ht)
 have HH := Hd H
 have c0 := H.c0
 have c1 := H.c1
 have c2 := H.c2
 have c3 := H.c3
 have hq := H.lt
 have hg := bI
 have s0 := eW (p.md : Int)
 have s1 := eW p.sp
 by_cases h : p.se < p.x.es.length
 . have HA := Hd (fun w' => aB6 p.md p.sp p.se p.x.es.length p.x.es.length w' (by omega))
   have hd : p.dn = true := by unfold Pt.dn; exact decide_eq_true h
   have hne : ((p.se : Int) == (p.x.es.length : Int)) = false := by simp; omega
   exact xJ
 . have HA := Hd (fun w' => aB6 p.md p.sp p.se p.x.es.length p.se w' (by omega))
   have hd : p.dn = false := by unfold Pt.dn; exact decide_eq_false h
   have s2 := eW (p.se : Int)
   exact xJ
theorem aY.set {w : World} {q : Nat} {B : Bp} {p : Pt} {gv : Value} (H : aY w q B p gv) (j : Nat) (v : Value) (p' : Pt) (hx : p'.x = p.x) (hg : p'.gs = p.gs) (he : (pcl p B.b gv).set j v = pcl p' B.b gv) : aY (w.setCell ⟨q, j, none⟩ v) q B p' gv := by
 refine ⟨?_, hx ▸ H.bd.off (aG w q j v) fun k hk e => H.noB (e ▸ hk), hg ▸ H.g.off (aG w q j v) fun k _ hk e => ?_⟩
 . rw [aS H.cell, fT, he]
 . rcases hk with hk | hk
   . omega
   . exact H.noG hk e
def bQ (q : Nat) (B : Bp) (p : Pt) (gv : Value) (w w' : World) : Prop := ∃ ev', aY w' q { B with ev := ev' } p gv /\ aF (fun k => k = q \/ B.own k) w w' /\ ∀ k, ev'.ownBlock = some k -> B.ev.ownBlock = some k \/ w.heap.size <= k
section
variable {w w' w'' : World} {q : Nat} {B : Bp} {p p2 : Pt} {gv gv2 : Value}
theorem aY.left (H : aY w q B p gv) (hb : Below w.heap.size w w') : bQ q B p gv w w' := ⟨B.ev, H.below hb, aF.ofBelow hb, fun k hk => .inl hk⟩
theorem bQ.from (ho : aF (fun k => k = q \/ B.own k) w w') (L : bQ q B p gv w' w'') : bQ q B p gv w w'' := by
 obtain ⟨ev', h, ho2, he⟩ := L
 exact ⟨ev', h, ho.trans ho2, fun k hk => (he k hk).imp id fun h => Nat.le_trans ho.size h⟩
theorem bQ.below (L : bQ q B p gv w w') (hb : Below w'.heap.size w' w'') : bQ q B p gv w w'' := by
 obtain ⟨ev', h, ho, he⟩ := L
 exact ⟨ev', h.below hb, ho.trans (aF.ofBelow hb), he⟩
theorem bQ.andThen {ev1 : Value} (ho : aF (fun k => k = q \/ B.own k) w w') (he1 : ∀ k, ev1.ownBlock = some k -> B.ev.ownBlock = some k \/ w.heap.size <= k) (L : bQ q { B with ev := ev1 } p gv w' w'') : bQ q B p gv w w'' := by
 obtain ⟨ev', h, ho2, he⟩ := L
 refine ⟨ev', h, ho.next ho2 ?_, fun k hk => ?_⟩
 . rintro i hi (hq | h1 | h1 | h1)
   . exact .inl hq
   . exact .inr (.inl h1)
   . exact .inr (.inr (.inl h1))
   . rcases he1 i h1 with h2 | h2
     . exact .inr (.inr (.inr h2))
     . omega
 . rcases he k hk with h1 | h1
   . exact he1 k h1
   . exact .inr (Nat.le_trans ho.size h1)
theorem aY.board {y : Bx} (H : aY w q B p gv) (L : jI B y w w') : bQ q B { p with x := y } gv w w' := by
 have K := L.kp H.bd
 obtain ⟨ev', h, ho, he⟩ := L
 refine ⟨ev', ⟨ho.at H.cell H.noO, h, H.g.off ho fun k _ hk hS => ?_⟩, ho.mono fun k _ hk => .inr hk, he⟩
 rcases hk with hk | hk
 . omega
 . have := H.bd.ownKd hS; rw [(aBe hk).1] at this; cases this
end
theorem aDZ (k : Nat) (h : k < 4294967296) : IntKind.i64.wrap ((k : Int) + 1) = (k : Int) + 1 := by rw [IntKind.wrap_i64]; omega
theorem aPI (q : Nat) (B : Bp) (p : Pt) (gv : Value) (w : World) (H : aY w q B p gv) (hg : ∀ g ∈ p.gs, 0 <= g /\ g < 4294967296) :
 Calls prog 162 #[.pointer (some ⟨q, 0, none⟩)] w fun e w' => e = .returned (.int .u64 p.gp) /\ Below w.heap.size w w' := by
 obtain ⟨y, cap, rfl, h1, h2, h3⟩ := H.g
 have c0 := H.c0
 have c4 := H.c4
 have hq := H.lt
 by_cases hN : p.gs.length = 0
 . rw [Pt.gp_nil hN]
   rw [hN] at c4
   clear H h1 h2 h3 hg
   go_enter func162, ntmps162
   go_wp2_with fail
   go_ret
   exact ⟨rfl, aI _⟩
 . obtain ⟨b, off, rfl, hb, _, hc⟩ := h3.resolve_left hN
   obtain ⟨i, hi⟩ : ∃ i, p.md % p.gs.length = i := ⟨_, rfl⟩
   have hil : i < p.gs.length := by rw [<- hi]; exact Nat.mod_lt _ (by omega)
   obtain ⟨g, hgi⟩ : ∃ g, p.gs[i]? = some g := ⟨_, List.getElem?_eq_getElem hil⟩
   have hgb := hg g (List.mem_of_getElem? hgi)
   rw [Pt.gp_get hi hgi]
   have ci := hc i g hgi
   have hrem : (p.md : Int).tmod (p.gs.length : Int) = (i : Int) := by rw [<- hi, Int.tmod_eq_emod_of_nonneg (by omega)]; omega
   generalize p.gs.length = N at *
   have hne : ((N : Int) == 0) = false := by simp; omega
   have hgc := bI
   clear H h3 hg hc hi hgi
   go_enter func162, ntmps162
   go_upto_region 3 with (fail)
   refine wp_region_quiet_below (by kernel_rfl) (by kernel_rfl) ?_
   repeat (go_big_quiet_step (fail))
   refine wpQuiet_nil ?_
   intro _ hw'
   obtain ⟨⟨dq, osq⟩, hw''⟩ := hw'
   subst hw''
   go_wp2_with fail
   go_ret
   exact ⟨rfl, below_regrown w _ _⟩
theorem aJ9 (q : Nat) (B : Bp) (p : Pt) (gv : Value) (m : Nat) (w : World) (H : aY w q B p gv) (ok : p.ok m) (hm : m < 4294967290) :
 Calls prog 86 #[.pointer (some ⟨q, 0, none⟩)] w fun e w' => e = .returned (.tuple #[]) /\ bQ q B p.pass gv w w' := by
 have hgb := Pt.gp_bounds ok.gs
 have HG := Hd (fun w' h => aPI q B p gv w' h ok.gs)
 have HH := Hd H
 have hmd := ok.md
 have hs0 := ok.s0
 have hs1 := ok.s1
 have hel : p.x.es.length < 4294967296 := by have := ok.es; omega
 have hw1 : IntKind.i64.wrap ((p.md : Int) + 1) = ((p.md : Int) + 1) := aDZ p.md (by omega)
 have hw2 : IntKind.u64.wrap (p.sp + p.gp) = p.sp + p.gp := IntWalk.u64_in _ (by omega)
 have HPP := Hd (show p.pass = { p with md := p.md + 1, sp := p.sp + p.gp, x := p.x.tick p.gp } from rfl)
 have HEL := Hd hel
 have HGB := Hd hgb
 clear H ok hm hmd hs0 hs1 hel hgb
 generalize p.gp = g at *
 go_enter func86, ntmps86
 go_wp2_with fail
 refine (HG.out _ HH.out).mono ?_
 rintro e w1 ⟨rfl, hb⟩
 have HH1 := Hd (HH.out.below hb)
 have HO := Hd (aF.ofBelow (S := fun k => k = q \/ B.own k) hb)
 have c0 := HH1.out.c0
 have c1 := HH1.out.c1
 have c3 := HH1.out.c3
 have f0 := HH1.out.free 0
 have f1 := HH1.out.free 1
 have hq := HH1.out.lt
 clear hb HG HH
 go_upto_region 3 with (fail)
 have H2 := (HH1.out.set 0 (.int .i64 ((p.md : Int) + 1)) { p with md := p.md + 1 } rfl rfl rfl).set 1 (.int .u64 (p.sp + g)) { p with md := p.md + 1, sp := p.sp + g } rfl rfl rfl
 have O2 := (HO.out.trans (aF.ofSetCell w1 ⟨q, 0, none⟩ (.int .i64 ((p.md : Int) + 1)) (.inl rfl))).trans (aF.ofSetCell (S := fun k => k = q \/ B.own k) (w1.setCell ⟨q, 0, none⟩ (.int .i64 ((p.md : Int) + 1))) ⟨q, 1, none⟩ (.int .u64 (p.sp + g)) (.inl rfl))
 clear c0 c1 c3 f0 f1 hq HH1 HO hw1 hw2
 generalize (w1.setCell ⟨q, 0, none⟩ (.int .i64 ((p.md : Int) + 1))).setCell ⟨q, 1, none⟩ (.int .u64 (p.sp + g)) = W at *
 have HH2 := Hd H2
 have HO2 := Hd O2
 have c3 := H2.c3
 clear H2 O2
 go_wp2_with fail
 refine (aFy B p.x g _ HH2.out.bd HGB.out.1 (by have := HGB.out.2; omega) HEL.out).mono ?_
 rintro e w2 ⟨rfl, hL⟩
 have HX := Hd (bQ.from HO2.out (HH2.out.board hL))
 clear c3 hL
 go_wp2_with fail
 go_end0
 exact ⟨rfl, by rw [HPP.out]; exact HX.out⟩
theorem aJc (q : Nat) (B : Bp) (p : Pt) (gv : Value) (m : Nat) (w : World) (H : aY w q B p gv) (ok : p.ok m) (hm : m < 4294967290) :
 Calls prog 19 #[.pointer (some ⟨q, 0, none⟩)] w fun e w' => e = .returned (.int .i64 ((p.x.es.length : Int) - p.se)) /\ bQ q B p.bt gv w w' := by
 have HR := Hd (show ∀ w', bC w' B p.x -> _ from fun w' h => zB B p.x w' h ok.td)
 have HH := Hd H
 have hse := ok.se
 have hes := ok.es
 have HA := Hd (fun w' => aB6 p.md p.sp p.se p.x.es.length p.x.es.length w' (by omega))
 have hw : IntKind.u32.wrap ((p.x.es.length : Int) - p.se) = (p.x.es.length : Int) - p.se := IntWalk.u32_in _ (by omega)
 have hw2 : IntKind.i64.wrap ((p.x.es.length : Int) - p.se) = (p.x.es.length : Int) - p.se := by rw [IntKind.wrap_i64]; omega
 have hf2 := fC2
 have c3 := H.c3
 clear H ok hm hse hes
 go_enter func19, ntmps19
 go_wp2_with fail
 refine (HR.out _ HH.out.bd).mono ?_
 rintro e w1 ⟨rfl, hb⟩
 have HH1 := Hd (HH.out.below hb)
 have HO := Hd (aF.ofBelow (S := fun k => k = q \/ B.own k) hb)
 clear hb HR HH c3
 have c0 := HH1.out.c0
 have c1 := HH1.out.c1
 have c2 := HH1.out.c2
 have hq := HH1.out.lt
 have hg := bI
 go_upto_region 4 with (fail)
 refine wp_region_quiet_below (by kernel_rfl) (by kernel_rfl) ?_
 repeat (go_big_quiet_step (first | (go_at_call 38; exact Calls.regrown_of (HA.out _))))
 refine wpQuiet_nil ?_
 intro _ hw'
 obtain ⟨⟨dq, osq⟩, hw''⟩ := hw'
 subst hw''
 have hb := below_regrown w1 dq osq
 have HH2 := Hd (HH1.out.below hb)
 have HO2 := Hd (HO.out.trans (aF.ofBelow hb))
 clear hb HH1 HO c0 c1 c2 hq hg
 dsimp only at HH2 HO2 ⊢
 generalize grow (redrawn w1 dq) osq = W at *
 have f2 := HH2.out.free 2
 have c2 := HH2.out.c2
 have HX := Hd (show bQ q B p.bt gv w (W.setCell ⟨q, 2, none⟩ (.int .u32 p.x.es.length)) from ⟨B.ev, HH2.out.set 2 (.int .u32 p.x.es.length) p.bt rfl rfl rfl, HO2.out.trans (aF.ofSetCell W ⟨q, 2, none⟩ (.int .u32 p.x.es.length) (.inl rfl)), fun k hk => .inl hk⟩)
 go_wp2_with fail
 go_ret
 exact ⟨rfl, HX.out⟩
def g64 : Obj := .cells #[.int .u32 0, .int .u32 0, .int .u32 0, .int .u32 0, .int .u32 0, .int .u32 0, .int .u32 0, .int .u32 0, .int .u32 0, .int .u32 0, .int .u32 0, .int .u32 0, .int .u32 0, .int .u32 0, .int .u32 0, .int .u32 0, .int .u32 0, .int .u32 0, .int .u32 0, .int .u32 0, .int .u32 0, .int .u32 0, .int .u32 0, .int .u32 0, .int .u32 0, .int .u32 0, .int .u32 0, .int .u32 0, .int .u32 0, .int .u32 0, .int .u32 0, .int .u32 0, .int .u32 0, .int .u32 0, .int .u32 0, .int .u32 0, .int .u32 0, .int .u32 0, .int .u32 0, .int .u32 0, .int .u32 0, .int .u32 0, .int .u32 0, .int .u32 0, .int .u32 0, .int .u32 0, .int .u32 0, .int .u32 0, .int .u32 0, .int .u32 0, .int .u32 0, .int .u32 0, .int .u32 0, .int .u32 0, .int .u32 0, .int .u32 0, .int .u32 0, .int .u32 0, .int .u32 0, .int .u32 0, .int .u32 0, .int .u32 0, .int .u32 0, .int .u32 0] tG (0, 0)
theorem aLH : Obj.cells #[.int .u32 0, .int .u32 0, .int .u32 0, .int .u32 0, .int .u32 0, .int .u32 0, .int .u32 0, .int .u32 0, .int .u32 0, .int .u32 0, .int .u32 0, .int .u32 0, .int .u32 0, .int .u32 0, .int .u32 0, .int .u32 0, .int .u32 0, .int .u32 0, .int .u32 0, .int .u32 0, .int .u32 0, .int .u32 0, .int .u32 0, .int .u32 0, .int .u32 0, .int .u32 0, .int .u32 0, .int .u32 0, .int .u32 0, .int .u32 0, .int .u32 0, .int .u32 0, .int .u32 0, .int .u32 0, .int .u32 0, .int .u32 0, .int .u32 0, .int .u32 0, .int .u32 0, .int .u32 0, .int .u32 0, .int .u32 0, .int .u32 0, .int .u32 0, .int .u32 0, .int .u32 0, .int .u32 0, .int .u32 0, .int .u32 0, .int .u32 0, .int .u32 0, .int .u32 0, .int .u32 0, .int .u32 0, .int .u32 0, .int .u32 0, .int .u32 0, .int .u32 0, .int .u32 0, .int .u32 0, .int .u32 0, .int .u32 0, .int .u32 0, .int .u32 0] 125 (0, 0) = g64 := rfl
theorem aJd : g64 = .cells (List.replicate 64 (Value.int .u32 0)).toArray tG (0, 0) := by kernel_rfl
def lR (gs : List Int) : List Value := gs.map fun g => .int .u32 g
theorem aBA (gs : List Int) : ∀ v ∈ lR gs, v.oneCell' = true := by
 intro v h
 obtain ⟨g, _, rfl⟩ := List.mem_map.1 h
 rfl
theorem aBD {gs : List Int} {j : Nat} {v : Value} (h : (lR gs)[j]? = some v) : ∃ g, gs[j]? = some g /\ v = .int .u32 g := by
 unfold lR at h
 rw [List.getElem?_map] at h
 cases e : gs[j]? with
 | none => rw [e] at h; cases h
 | some g => rw [e] at h; exact ⟨g, rfl, by simpa using h.symm⟩
theorem sQ (g o i : Nat) : (⟨g, o, none⟩ : Addr).add i = ⟨g, o + i, none⟩ := by unfold Addr.add; split <;> simp_all
theorem aF2 {s : Nat} {w : World} {y : Option Addr} {cap : Nat} {gs : List Int} (h : gs.length = 0 \/ ∃ b off, y = some ⟨b, off, none⟩ /\ b < w.heap.size /\ (b < s \/ gK (kd w b) = true) /\ ∀ i g, gs[i]? = some g -> w.cell? ⟨b, off + i, none⟩ = some (.int .u32 g)) {w' : World} (hb : Below w.heap.size w w') (hp : 0 < (lR gs).length) :
 ∃ ad, y = some ad /\ ∀ j v, (lR gs)[j]? = some v -> w'.cell? (ad.add j) = some v := by
 rcases h with h | ⟨b, off, rfl, h1, _, h2⟩
 . unfold lR at hp; rw [List.length_map] at hp; omega
 . refine ⟨_, rfl, fun j v hj => ?_⟩
   obtain ⟨g, hg, rfl⟩ := aBD hj
   rw [sQ, hb.cell (p := ⟨b, off + j, none⟩) h1]
   exact h2 j g hg
theorem aKZ {w : World} {a n : Nat} {gs : List Int} (hn : gs.length = n) (hl : n <= 64) (h : w.heap[a]? = some (.cells (Go.splice (List.replicate 64 (Value.int .u32 0)) 0 (lR gs)).toArray tG (0, 0))) : kY 0 w (.slice (some ⟨a, 0, none⟩) n n) gs := by
 subst hn
 refine ⟨_, _, rfl, Nat.le_refl _, by unfold maxLen; omega, .inr ⟨a, 0, rfl, lt_of_block h, .inr ?_, fun i g hi => ?_⟩⟩
 . rw [bP h]; decide
 . have hil : i < gs.length := (List.getElem?_eq_some_iff.1 hi).1
   rw [aA h, Nat.zero_add, List.getElem?_toArray]
   unfold Go.splice
   rw [List.take_zero, List.nil_append, List.getElem?_append_left (by unfold lR; rw [List.length_map]; exact hil)]
   unfold lR
   rw [List.getElem?_map, hi]
   rfl
theorem aJC (a n : Nat) (hl : n <= 64) (w : World) : (Instr.sliceAt 125 (.pointer (some ⟨a, 0, none⟩)) none (some (.int .i64 n)) (some (.int .i64 n))).run prog w = .ok (.slice (some ⟨a, 0, none⟩) n n) w := by
 have hal : prog.arrayLen 125 = 64 := by kernel_rfl
 have hel : prog.elem 125 = tU := by kernel_rfl
 have hs : ∀ w, (sizeOf tU).run prog w = .ok 1 w := fun w => by kernel_rfl
 rw [run_sliceAt_array_hm (P := prog) w 125 ⟨a, 0, none⟩ (by rw [hal, hel]; exact underlying125) .i64 .i64 n n (by omega) (Int.le_refl _) (by rw [hal]; omega), hel, hs]
 simp only [Result.andThen_ok, slicedAt, Int.toNat_natCast, Nat.sub_zero, Nat.zero_mul, sQ, Nat.add_zero, ite_self]
theorem aKQ (s : Nat) (v : Value) (gs : List Int) (w : World) (G : kY s w v gs) (hl : gs.length <= 64) :
 Calls prog 26 #[v] w fun e w' => ∃ v', e = .returned v' /\ kY 0 w' v' gs /\ Below w.heap.size w w' := by
 obtain ⟨y, cap, rfl, h1, h2, h3⟩ := G
 have hal : prog.arrayLen 125 = 64 := by kernel_rfl
 have hz := aD w g64
 rw [aJd] at hz
 have hb := aE (aI w) g64
 have hcs := Hd (fun hp => aF2 h3 (cap := cap) hb hp)
 have hcl : (lR gs).length = gs.length := by unfold lR; rw [List.length_map]
 have h1c := aBA gs
 obtain ⟨n, hn⟩ : ∃ n, gs.length = n := ⟨_, rfl⟩
 have HE := Hd (fun (w' : World) h => aKZ (w := w') (a := w.heap.size) hn (hn ▸ hl) h)
 rw [hn] at hl hcl h1 
 obtain ⟨L, hL⟩ : ∃ L, L = List.replicate 64 (Value.int .u32 0) := ⟨_, rfl⟩
 have hLl : L.length = 64 := by rw [hL, List.length_replicate]
 have hgl : g64 = .cells L.toArray tG (0, 0) := by rw [aJd, hL]
 rw [<- hL] at hz HE
 rw [hgl] at hb hcs
 have HZ := Hd hz
 have HB := Hd hb
 clear h3 hL hz hb
 go_enter func26, ntmps26
 rw [hn]
 go_upto_region 2 with (fail)
 rw [aLH, hgl]
 clear hgl
 generalize w.alloc (.cells L.toArray tG (0, 0)) = W at *
 have hc2 : (lR gs).length = Nat.min n 64 := by rw [hcl]; exact (Nat.min_eq_left hl).symm
 have hfit : 0 + (lR gs).length <= L.length := by omega
 go_upto_region 3 with (refine wpList_copy_splice rfl (.tmp 5) (.tmp 6) 25 25 rfl tU underlying25 (by kernel_rfl) _ _ 64 64 n cap rfl rfl w.heap.size 0 L tG HZ.out (lR gs) hc2 (fun hp => ⟨rfl, hcs.out hp⟩) hfit h1c w.heap.size w HB.out (Nat.le_refl _) ?_; intro w2 hz2 hb2)
 have hsl := aJC w.heap.size n hl
 have hv := HE.out w2 hz2.out
 clear hcs HZ HB hc2 hfit hz2 HE hcl hl h1 h2
 go_wp2_with fail
 go_ret
 exact ⟨_, rfl, hv, hb2⟩
end Go.Proofs.YtpojmmgokgamgaaGreat.B
