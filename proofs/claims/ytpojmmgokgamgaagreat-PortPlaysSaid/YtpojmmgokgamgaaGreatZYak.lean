/- A part of the proof of a law of layer 12: ak. -/
import Derived.Test.YtpojmmgokgamgaaGreatZYai
set_option linter.unusedVariables false
set_option linter.unusedSimpArgs false
set_option maxHeartbeats 12800000
set_option maxRecDepth 100000
namespace Go.Proofs.YtpojmmgokgamgaaGreat.B
open Go.Proofs.Tryz
open Go.ChangeShapes Go.WideShapes Go.RowKit Go.Sort
theorem iK : (prog.info? 48).map (·.size) = some 8 := by kernel_rfl
def k8 (d r s : Int) (sec : Int) (al ah : Int) (en st : Bool) : List Value := [.int .u32 d, .int .u32 r, .int .u32 s, .int .u64 sec, .int .u32 al, .int .u32 ah, .bool en, .bool st]
def kl (t : Rk) : List Value := k8 t.div t.rest t.set t.sec t.al t.ah t.en t.st
theorem aBw (d r s : Int) (sec : Int) (al ah : Int) (en st : Bool) : ∀ x ∈ k8 d r s sec al ah en st, x.oneCell' = true := by
 intro x h
 simp only [k8, List.mem_cons, List.not_mem_nil, or_false] at h
 rcases h with rfl | rfl | rfl | rfl | rfl | rfl | rfl | rfl <;> rfl
abbrev tK : TypeId := 48
def bM (w : World) (b : Nat) (t : Rk) : Prop := w.heap[b]? = some (.cells (kl t).toArray tK (0, 0))
section
variable {w w' : World} {b : Nat} {t : Rk}
theorem bM.lt (h : bM w b t) : b < w.heap.size := lt_of_block h
theorem bM.below (h : bM w b t) (hb : Below w.heap.size w w') : bM w' b t := aC hb h h.lt
theorem bM.free (h : bM w b t) (j : Nat) : w.frozen? ⟨b, j, none⟩ = false := aN h j
theorem bM.c0 (h : bM w b t) : w.cell? ⟨b, 0, none⟩ = some (.int .u32 t.div) := by rw [aA h 0]; rfl
theorem bM.c1 (h : bM w b t) : w.cell? ⟨b, 1, none⟩ = some (.int .u32 t.rest) := by rw [aA h 1]; rfl
theorem bM.c2 (h : bM w b t) : w.cell? ⟨b, 2, none⟩ = some (.int .u32 t.set) := by rw [aA h 2]; rfl
theorem bM.c3 (h : bM w b t) : w.cell? ⟨b, 3, none⟩ = some (.int .u64 t.sec) := by rw [aA h 3]; rfl
theorem bM.c4 (h : bM w b t) : w.cell? ⟨b, 4, none⟩ = some (.int .u32 t.al) := by rw [aA h 4]; rfl
theorem bM.c5 (h : bM w b t) : w.cell? ⟨b, 5, none⟩ = some (.int .u32 t.ah) := by rw [aA h 5]; rfl
theorem bM.c6 (h : bM w b t) : w.cell? ⟨b, 6, none⟩ = some (.bool t.en) := by rw [aA h 6]; rfl
theorem bM.c7 (h : bM w b t) : w.cell? ⟨b, 7, none⟩ = some (.bool t.st) := by rw [aA h 7]; rfl
theorem bM.put (h : bM w b t) (j : Nat) (x : Value) {s : Rk} (he : (kl t).set j x = kl s) : bM (w.setCell ⟨b, j, none⟩ x) b s := by
 unfold bM; rw [aS h, <- he]; simp
theorem bM.s1 (h : bM w b t) (x : Int) : bM (w.setCell ⟨b, 1, none⟩ (.int .u32 x)) b { t with rest := x } := h.put _ _ rfl
theorem bM.s2 (h : bM w b t) (x : Int) : bM (w.setCell ⟨b, 2, none⟩ (.int .u32 x)) b { t with set := x } := h.put _ _ rfl
theorem bM.s3 (h : bM w b t) (x : Int) : bM (w.setCell ⟨b, 3, none⟩ (.int .u64 x)) b { t with sec := x } := h.put _ _ rfl
theorem bM.s4 (h : bM w b t) (x : Int) : bM (w.setCell ⟨b, 4, none⟩ (.int .u32 x)) b { t with al := x } := h.put _ _ rfl
theorem bM.s5 (h : bM w b t) (x : Int) : bM (w.setCell ⟨b, 5, none⟩ (.int .u32 x)) b { t with ah := x } := h.put _ _ rfl
theorem bM.s6 (h : bM w b t) (x : Bool) : bM (w.setCell ⟨b, 6, none⟩ (.bool x)) b { t with en := x } := h.put _ _ rfl
theorem bM.s7 (h : bM w b t) (x : Bool) : bM (w.setCell ⟨b, 7, none⟩ (.bool x)) b { t with st := x } := h.put _ _ rfl
theorem bM.other (h : bM w b t) (k j : Nat) (x : Value) (hne : b ≠ k) : bM (w.setCell ⟨k, j, none⟩ x) b t := aW h k j x hne
theorem bM.row {old : Array Value} (h : w.heap[b]? = some (.cells old tK (0, 0))) (t : Rk) : bM (w.setRow b (kl t).toArray) b t := aT _ h
theorem bM.elseRow (h : bM w b t) (g : Nat) (cs : Array Value) (hne : b ≠ g) : bM (w.setRow g cs) b t := iT g cs h hne
theorem bM.grown (h : bM w b t) : ∀ w', (∃ p : Regrown, w' = grow (redrawn w p.d) p.os) -> bM w' b t := cV h
end
section
variable {ops : Array Oper} {rest : List Oper} {o : Oper} {a : Act} {w : World} {Q : Exit -> Act -> World -> Prop}
theorem cW (hgd : o.guard = none) (x : Operand) (ho : o.op = .load 48 x) {b : Nat} (hx : a.eval x = .pointer (some ⟨b, 0, none⟩)) {t : Rk} (hg : bM w b t)
 (h : wpList prog ops Q rest (a.put o.dst (.agg (kl t).toArray)) w) : wpList prog ops Q (o :: rest) a w :=
 aL hgd _ x ho b 0 hx _ (kl t) hg underlying48 rfl iK (aM _) h
theorem aCd (x : Operand) (ho : o.op = .load 48 x) (hw : Region.wanted o (yielded ops a.tmps) = true) {b : Nat} (hx : a.eval x = .pointer (some ⟨b, 0, none⟩)) {t : Rk} (hg : bM w b t)
 (h : wpList prog ops Q rest (a.put o.dst (.agg (kl t).toArray)) w) : wpList prog ops Q (o :: rest) a w :=
 cK _ x ho hw b 0 hx _ (kl t) hg underlying48 rfl iK (aM _) h
theorem eS (hgd : o.guard = none) (x y : Operand) (ho : o.op = .store 48 x y) {b : Nat} (hx : a.eval x = .pointer (some ⟨b, 0, none⟩)) {t : Rk} (hy : a.eval y = .agg (kl t).toArray) {t' : Rk} (hg : bM w b t')
 (h : wpList prog ops Q rest (a.put o.dst undef) (w.setRow b (kl t).toArray)) : wpList prog ops Q (o :: rest) a w := by
 refine aH hgd _ x y ho b 0 hx (kl t) hy hg iK (by simp [kl, k8]) (aBw _ _ _ _ _ _ _ _) ?_
 rw [aV _ _ (by simp [kl, k8])]
 exact h
theorem aCG {C : World -> Prop} {K : Act -> Prop} (x : Operand) (ho : o.op = .load 48 x) {b : Nat} (hx : a.eval x = .pointer (some ⟨b, 0, none⟩)) {t : Rk} (hg : ∀ w, C w -> bM w b t)
 (h : K (a.put o.dst (.agg (kl t).toArray))) : o.quiet prog a C K :=
 bD _ x ho b 0 hx _ (kl t) (fun w hw => hg w hw) underlying48 rfl iK (aM _) h
end
theorem aFV {fn : Func} {p : Tmp} (h : fn.results = #[.cell p 48]) (tmps : Array Value) (w : World) {b : Nat} {t : Rk} (hp : tmps[p]? = some (.pointer (some ⟨b, 0, none⟩))) (hg : bM w b t) :
 (results fn tmps).run prog w = .ok (.agg (kl t).toArray) w :=
 aU h tmps w b 0 _ (kl t) hp hg underlying48 rfl iK (aM _)
theorem aF8 {fn : Func} {p q : Tmp} (h : fn.results = #[.cell p 48, .tmp q]) (tmps : Array Value) (w : World) {b : Nat} {t : Rk} (y : Value) (hp : tmps[p]? = some (.pointer (some ⟨b, 0, none⟩))) (hq : tmps[q]? = some y) (hg : bM w b t) :
 (results fn tmps).run prog w = .ok (.tuple #[.agg (kl t).toArray, y]) w :=
 bB h tmps w b 0 _ (kl t) y hp hq hg underlying48 rfl iK (aM _)
def lK : Rk := ⟨0, 0, 0, 0, 0, 0, false, false⟩
def zK : Obj := .cells (kl lK).toArray tK (0, 0)
theorem cZ : Obj.cells #[.int .u32 0, .int .u32 0, .int .u32 0, .int .u64 0, .int .u32 0, .int .u32 0, .bool false, .bool false] 48 (0, 0) = zK := rfl
def oK (t : Rk) : Obj := .cells (kl t).toArray tK (0, 0)
theorem eI (t : Rk) : Obj.cells (kl t).toArray 48 (0, 0) = oK t := rfl
theorem xM {P : Prop} (h : P := by
 go_enter func173, ntmps173
 go_wp2
 go_ret
 exact ⟨rfl, rfl⟩
 ) : P := h
theorem rLo (a : Int) (w : World) (h0 : 0 <= a) (h1 : a < 18446744073709551616) :
 Calls prog 173 #[.int .u64 a] w fun e w' => e = .returned (.int .u32 (lo a)) /\ w = w' := by
 exact xM
theorem rHi (a : Int) (w : World) (h0 : 0 <= a) (h1 : a < 18446744073709551616) :
 Calls prog 174 #[.int .u64 a] w fun e w' => e = .returned (.int .u32 (hi a)) /\ w = w' := by
 go_enter func174, ntmps174
 go_wp2
 go_ret
 exact ⟨rfl, rfl⟩
theorem aGM (h l : Int) (w : World) (h0 : 0 <= h) (h1 : h < 4294967296) (l0 : 0 <= l) (l1 : l < 4294967296) :
 Calls prog 139 #[.int .u32 h, .int .u32 l] w fun e w' => e = .returned (.int .u64 (dD h l)) /\ w = w' := by
 go_enter func139, ntmps139
 go_wp2
 go_ret
 exact ⟨rfl, rfl⟩
theorem aLp (a b : Int) (w : World) (h0 : 0 <= a) (h1 : a < 18446744073709551616) (l0 : 0 <= b) (l1 : b < 18446744073709551616) :
 Calls prog 124 #[.int .u64 a, .int .u64 b] w fun e w' => e = .returned (.int .u64 (eC a b)) /\ w = w' := by
 go_enter func124, ntmps124
 exact vM
theorem aBv (t : Rk) (w : World) (h : t.ok) : Calls prog 157 #[.agg (kl t).toArray] w fun e w' => e = .returned (.int .u64 t.alarm) /\ Below w.heap.size w w' := by
 have hB := aE (aI w) (oK t)
 have X : bM (w.alloc (oK t)) w.heap.size t := aD w (oK t)
 have x4 := X.c4
 have x5 := X.c5
 go_enter func157, ntmps157
 go_upto_region 1 with (fail)
 rw [eI]
 generalize w.alloc (oK t) = W at *
 go_wp2_with (go_at_call 139; refine (aGM _ _ _ h.h0 h.h1 h.l0 h.l1).mono ?_; rintro e w' ⟨rfl, rfl⟩)
 go_ret
 exact ⟨rfl, hB⟩
theorem aIA (t : Rk) (w : World) (h : t.ok) : Calls prog 159 #[.agg (kl t).toArray] w fun e w' => e = .returned (.bool t.met) /\ Below w.heap.size w w' := by
 have hB := aE (aI w) (oK t)
 have X : bM (w.alloc (oK t)) w.heap.size t := aD w (oK t)
 have x3 := X.c3
 have x6 := X.c6
 have HA := Hd (fun w' => aBv t w' h)
 have hl := X.lt
 obtain ⟨m, hm⟩ : ∃ m, t.met = m := ⟨_, rfl⟩
 rw [hm]
 unfold Rk.met at hm
 obtain ⟨A, hA⟩ : ∃ A, t.alarm = A := ⟨_, rfl⟩
 rw [hA] at hm HA
 clear hA h
 cases hen : t.en
 . rw [hen] at x6 hm
   have hM := Hd hm
   clear hen hm
   go_enter func159, ntmps159
   go_upto_region 1 with (fail)
   rw [eI]
   generalize w.alloc (oK t) = W at *
   have hg := bI
   refine wp_region_quiet_below (by kernel_rfl) (by kernel_rfl) ?_
   repeat (go_big_quiet_step (fail))
   refine wpQuiet_nil ?_
   intro _ hw'
   obtain ⟨⟨dq, osq⟩, hw''⟩ := hw'
   subst hw''
   go_wp2_with fail
   go_ret
   exact ⟨bX hM.out, trG hB _ _⟩
 . rw [hen] at x6 hm
   have hM := Hd hm
   clear hen hm
   go_enter func159, ntmps159
   go_upto_region 1 with (fail)
   rw [eI]
   generalize w.alloc (oK t) = W at *
   have hg := bI
   refine wp_region_quiet_below (by kernel_rfl) (by kernel_rfl) ?_
   repeat (first
    | go_big_quiet_skip
    | (go_big_quiet_want; first
        | (refine aCG (.tmp 1) rfl rfl X.grown ?_; go_simp; go_big_quiet_on)
        | (go_big_quiet_op; first
            | go_big_quiet_on
            | go_big_quiet_call (first | (go_at_call 157; exact Calls.regrown_of (HA.out _))))))
   refine wpQuiet_nil ?_
   intro _ hw'
   obtain ⟨⟨dq, osq⟩, hw''⟩ := hw'
   subst hw''
   go_wp2_with fail
   go_ret
   exact ⟨bX (by rw [<- hM.out]; simp), trG hB _ _⟩
theorem aD0 {a b : Rk} (h : b.met = false) : Rk.behind a b = b := by unfold Rk.behind; rw [h]; rfl
theorem aBt {a b : Rk} (h : a.met = true) : Rk.behind a b = b := by unfold Rk.behind; rw [h]; simp
theorem aBa {a b : Rk} (h : a.met = false) (k : b.met = true) : Rk.behind a b = { b with st := true } := by unfold Rk.behind; rw [h, k]; rfl
theorem jJ (a b : Rk) (w : World) (ha : a.ok) (hb : b.ok) :
 Calls prog 126 #[.agg (kl a).toArray, .agg (kl b).toArray] w fun e w' => e = .returned (.agg (kl (Rk.behind a b)).toArray) /\ Below w.heap.size w w' := by
 have hB := aE (aE (aE (aI w) (oK a)) (oK b)) zK
 have X : bM (((w.alloc (oK a)).alloc (oK b)).alloc zK) w.heap.size a := aBQ w _ _ _
 have Y : bM (((w.alloc (oK a)).alloc (oK b)).alloc zK) (w.heap.size + 1) b := aCa w _ _ _
 have Z : bM (((w.alloc (oK a)).alloc (oK b)).alloc zK) (w.heap.size + 2) lK := aCU w _ _ _
 have HA := Hd (fun w' => aIA a w' ha)
 have HM := Hd (fun w' => aIA b w' hb)
 clear ha hb
 obtain ⟨p, hp⟩ : ∃ p, a.met = p := ⟨_, rfl⟩
 obtain ⟨q, hq⟩ : ∃ q, b.met = q := ⟨_, rfl⟩
 rw [hp] at HA
 rw [hq] at HM
 cases q
 . rw [aD0 hq]
   clear hp hq HA
   go_enter func126, ntmps126
   go_upto_region 1 with (fail)
   rw [eI, eI, cZ]
   generalize ((w.alloc (oK a)).alloc (oK b)).alloc zK = W at *
   go_wp2_with (refine cW rfl (.tmp 3) rfl rfl Y ?_)
   refine (HM.out _).mono ?_
   rintro e W1 ⟨rfl, hb⟩
   have X1 := X.below hb
   have Y1 := Y.below hb
   have Z1 := Z.below hb
   have hB1 := tr hB hb
   clear X Y Z hB hb HM
   have R := bM.row Z1 b
   have hB2 := aB hB1 (kl b).toArray (g := w.heap.size + 2) (by omega)
   go_wp2_with (first | (refine cW rfl (.tmp 3) rfl rfl Y1 ?_) | (refine eS rfl (.tmp 4) (.tmp 13) rfl rfl (t := b) rfl Z1 ?_))
   refine bodyPost_ret (aFV rfl _ _ rfl R) rfl ⟨rfl, hB2⟩
 . have he : Rk.behind a b = (if p = true then b else { b with st := true }) := by
    cases p
    . exact aBa hp hq
    . exact aBt hp
   rw [he]
   clear he hp hq
   go_enter func126, ntmps126
   go_upto_region 1 with (fail)
   rw [eI, eI, cZ]
   generalize ((w.alloc (oK a)).alloc (oK b)).alloc zK = W at *
   go_wp2_with (refine cW rfl (.tmp 3) rfl rfl Y ?_)
   refine (HM.out _).mono ?_
   rintro e W1 ⟨rfl, hb⟩
   have X1 := X.below hb
   have Y1 := Y.below hb
   have Z1 := Z.below hb
   have hB1 := tr hB hb
   clear X Y Z hB hb HM
   go_wp2_with (first | (refine aCd (.tmp 2) rfl rfl rfl X1 ?_) | (refine cW rfl (.tmp 2) rfl rfl X1 ?_))
   refine (HA.out _).mono ?_
   rintro e W2 ⟨rfl, hb⟩
   have Y2 := Y1.below hb
   have Z2 := Z1.below hb
   have hB2 := tr hB1 hb
   clear X1 Y1 Z1 hB1 hb HA
   cases p
   . have f7 := Y2.free 7
     have Y3 : bM _ _ { b with st := true } := Y2.s7 true
     have Z3 := Z2.other (w.heap.size + 1) 7 (.bool true) (by omega)
     have hB3 := hB2.setCell (p := ⟨w.heap.size + 1, 7, none⟩) (by simp) (.bool true)
     have x7 := Y2.c7
     go_upto_region 3 with (fail)
     clear Y2 Z2 hB2 f7 x7
     generalize (W2.setCell ⟨w.heap.size + 1, 7, none⟩ (.bool true)) = W3 at *
     have R := bM.row Z3 { b with st := true }
     have hB4 := aB hB3 (kl { b with st := true }).toArray (g := w.heap.size + 2) (by omega)
     go_wp2_with (first | (refine cW rfl (.tmp 3) rfl rfl Y3 ?_) | (refine eS rfl (.tmp 4) (.tmp 13) rfl rfl (t := { b with st := true }) rfl Z3 ?_))
     refine bodyPost_ret (aFV rfl _ _ rfl R) rfl ⟨rfl, hB4⟩
   . have R := bM.row Z2 b
     have hB3 := aB hB2 (kl b).toArray (g := w.heap.size + 2) (by omega)
     go_wp2_with (first | (refine cW rfl (.tmp 3) rfl rfl Y2 ?_) | (refine eS rfl (.tmp 4) (.tmp 13) rfl rfl (t := b) rfl Z2 ?_))
     refine bodyPost_ret (aFV rfl _ _ rfl R) rfl ⟨rfl, hB3⟩
theorem aLI (t : Rk) (w : World) :
 Calls prog 128 #[.agg (kl t).toArray] w fun e w' => e = .returned (.agg (kl t.zero).toArray) /\ Below w.heap.size w w' := by
 have hB := aE (aE (aI w) (oK t)) zK
 have X : bM ((w.alloc (oK t)).alloc zK) w.heap.size t := bG w _ _
 have Z : bM ((w.alloc (oK t)).alloc zK) (w.heap.size + 1) lK := bL w _ _
 have x0 := X.c0
 have x1 := X.c1
 have x3 := X.c3
 go_enter func128, ntmps128
 go_upto_region 1 with (fail)
 rw [eI, cZ]
 generalize (w.alloc (oK t)).alloc zK = W at *
 have R := bM.row Z t.zero
 have hB2 := aB hB (kl t.zero).toArray (g := w.heap.size + 1) (by omega)
 go_wp2_with (refine eS rfl (.tmp 2) (.tmp 9) rfl rfl (t := t.zero) rfl Z ?_)
 refine bodyPost_ret (aFV rfl _ _ rfl R) rfl ⟨rfl, hB2⟩
theorem aIK {t : Rk} (h : t.ok) {n : Int} (n0 : 0 <= n) : t.adv n = if t.div <= t.rest + n % t.div then { t with sec := eC (eC t.sec (n / t.div)) 1, rest := t.rest + n % t.div - t.div } else { t with sec := eC t.sec (n / t.div), rest := t.rest + n % t.div } := by
 obtain ⟨e1, e2⟩ := vZ t.rest n t.div h.d0 h.r0 h.r1
 have q := Int.ediv_nonneg n0 (show 0 <= t.div by have := h.d0; omega)
 have s0 := h.s0
 have s1 := h.s1
 unfold Rk.adv
 rw [e1, e2]
 split
 . simp only [Rk.mk.injEq, and_true, true_and]
   rw [mE, mE]; unfold rS; omega
 . simp only [Rk.mk.injEq, and_true, true_and]
   rw [mE]; unfold rS; omega
theorem wT {P : Prop} (h : P := by
 go_wp2_with (first | (refine cW rfl (.tmp 2) rfl rfl X7 ?_) | (refine cW rfl (.tmp 5) rfl rfl Y7 ?_))
 refine (HK.out _).mono ?_
 rintro e W6 ⟨rfl, hb⟩
 have G8 := G7.below hb
 have B8 := tr B7 hb
 have R := bM.row G8 T
 have B9 := aB B8 (kl T).toArray (g := w.heap.size + 1) (by omega)
 clear X7 Y7 G7 B7 hb HK
 go_wp2_with (refine eS rfl (.tmp 4) (.tmp 41) rfl rfl (t := T) rfl G8 ?_)
 refine bodyPost_ret (aFV rfl _ _ rfl R) rfl ⟨rfl, B9⟩
 ) : P := h
theorem aE5 (t : Rk) (n : Int) (w : World) (h : t.ok) (n0 : 0 <= n) (n1 : n < 18446744073709551616) :
 Calls prog 67 #[.agg (kl t).toArray, .int .u64 n] w fun e w' => e = .returned (.agg (kl (t.tick n)).toArray) /\ Below w.heap.size w w' := by
 have hB := aE (aE (aI w) (oK t)) zK
 have X : bM ((w.alloc (oK t)).alloc zK) w.heap.size t := bG w _ _
 have G : bM ((w.alloc (oK t)).alloc zK) (w.heap.size + 1) lK := bL w _ _
 have hs : ((w.alloc (oK t)).alloc zK).heap.size = w.heap.size + 2 := aPA w _ _
 have hA := Rk.adv_ok h n0
 have HK := Hd (fun w' => jJ t (t.adv n) w' h hA)
 have hw := aIK h n0
 obtain ⟨T, hT⟩ : ∃ T, t.tick n = T := ⟨_, rfl⟩
 rw [hT]
 unfold Rk.tick at hT
 rw [hT] at HK
 obtain ⟨d0, d1, r0, r1, w0, w1, s0, s1, _, _, _, _⟩ := h
 have q0 := Int.ediv_nonneg n0 (show 0 <= t.div by omega)
 have q1 : n / t.div < 18446744073709551616 := Int.lt_of_le_of_lt (Int.ediv_le_self _ n0) n1
 have m0 := Int.emod_nonneg n (show t.div ≠ 0 by omega)
 have m1 := Int.emod_lt_of_pos n (show 0 < t.div by omega)
 have hq : n.tdiv t.div = n / t.div := Int.tdiv_eq_ediv_of_nonneg n0
 have hm : n.tmod t.div = n % t.div := Int.tmod_eq_emod_of_nonneg n0
 obtain ⟨q, hq2⟩ : ∃ q, n / t.div = q := ⟨_, rfl⟩
 obtain ⟨m, hm2⟩ : ∃ m, n % t.div = m := ⟨_, rfl⟩
 rw [hq2] at hq q0 q1 hw
 rw [hm2] at hm m0 m1 hw
 have b0 : 0 <= eC t.sec q /\ eC t.sec q < 18446744073709551616 := by unfold eC; split <;> omega
 have HA := Hd (fun w' => aLp t.sec q w' s0 s1 q0 q1)
 have HA2 := Hd (fun w' => aLp (eC t.sec q) 1 w' b0.1 b0.2 (by omega) (by omega))
 have hne : (t.div == 0) = false := by simp; omega
 clear b0 hA hT hq2 hm2
 obtain ⟨u, hu⟩ : ∃ u, eC t.sec q = u := ⟨_, rfl⟩
 rw [hu] at hw HA HA2
 obtain ⟨u2, hu2⟩ : ∃ u2, eC u 1 = u2 := ⟨_, rfl⟩
 rw [hu2] at hw HA2
 clear hu hu2
 have HW := Hd hw
 have HQ := Hd hq
 have HR := Hd hm
 clear hw hq hm
 go_enter func67, ntmps67
 go_upto_region 1 with (fail)
 rw [eI, cZ]
 generalize (w.alloc (oK t)).alloc zK = W at *
 have B2 := aE hB zK
 have X2 := X.below (aE (aI W) zK)
 have G2 := G.below (aE (aI W) zK)
 have Y2 : bM (W.alloc zK) W.heap.size lK := aD W zK
 rw [hs] at Y2
 go_upto_region 2 with (first | (refine cW rfl (.tmp 2) rfl rfl X ?_) | (refine eS rfl (.tmp 5) (.tmp 8) rfl rfl (t := t) rfl (by rw [cZ]; first | exact Y2 | exact (hs ▸ Y2)) ?_))
 rw [cZ]
 have Y3 := bM.row Y2 t
 have X3 := X2.elseRow (w.heap.size + 2) (kl t).toArray (by omega)
 have G3 := G2.elseRow (w.heap.size + 2) (kl t).toArray (by omega)
 have B3 := aB B2 (kl t).toArray (g := w.heap.size + 2) (by omega)
 clear X G hB hs Y2 X2 G2 B2
 generalize (W.alloc zK).setRow (w.heap.size + 2) (kl t).toArray = W2 at *
 have x0 := X3.c0
 have y3 := Y3.c3
 have f3 := Y3.free 3
 have hl := Y3.lt
 have hg := bI
 have hf := cP
 go_upto_region 3 with (fail)
 refine aJ 7 (by kernel_rfl) (by kernel_rfl) ?_
 simp only [List.take_succ_cons, List.take_zero, List.drop_succ_cons, List.drop_zero]
 have HQ2 := HQ.out
 repeat (go_big_quiet_step (first | (go_at_call 124; exact Calls.regrown_of ((HA.out _).mono fun _ _ g => ⟨g.1, g.2 ▸ aI _⟩))))
 refine wpQuiet_nil ?_
 intro _ hw'
 obtain ⟨⟨dq, osq⟩, hw''⟩ := hw'
 subst hw''
 clear HQ2 HA
 have hb2 := below_regrown W2 dq osq
 have X4 := X3.below hb2
 have G4 := G3.below hb2
 have Y4 : bM _ _ { t with sec := u } := (Y3.below hb2).s3 u
 have B4 := (tr B3 hb2).setCell (p := ⟨w.heap.size + 2, 3, none⟩) (by simp) (.int .u64 u)
 have X5 := X4.other (w.heap.size + 2) 3 (.int .u64 u) (by omega)
 have G5 := G4.other (w.heap.size + 2) 3 (.int .u64 u) (by omega)
 have hl2 : w.heap.size + 2 < (grow (redrawn W2 dq) osq).heap.size := (Y3.below hb2).lt
 clear Y3 X3 G3 B3 X4 G4 hb2
 go_upto_region 4 with (fail)
 clear x0 y3 f3 hl hl2 hg hf
 generalize (grow (redrawn W2 dq) osq).setCell ⟨w.heap.size + 2, 3, none⟩ (.int .u64 u) = W3 at *
 have y1 := Y4.c1
 have y3 := Y4.c3
 have hl := Y4.lt
 have hg := bI
 have hwr : IntKind.u64.wrap (t.rest + m) = t.rest + m := IntWalk.u64_in _ (by omega)
 have HR2 := HR.out
 refine wp_region_quiet_below (by kernel_rfl) (by kernel_rfl) ?_
 repeat (go_big_quiet_step (fail))
 refine wpQuiet_nil ?_
 intro _ hw'
 obtain ⟨⟨dq2, osq2⟩, hw''⟩ := hw'
 subst hw''
 clear HR2 hwr y1 y3 hg hl
 have hb2 := below_regrown W3 dq2 osq2
 have X6 := X5.below hb2
 have G6 := G5.below hb2
 have Y6 := Y4.below hb2
 have B6 := tr B4 hb2
 clear X5 G5 Y4 B4 hb2
 generalize grow (redrawn W3 dq2) osq2 = W4 at *
 by_cases hge : t.div <= t.rest + m
 . have hw := HW.out
   rw [if_pos hge] at hw
   rw [hw] at HK
   clear hw HW
   have y3 := Y6.c3
   have f3 := Y6.free 3
   have f1 := Y6.free 1
   have y1 := Y6.c1
   have hlt2 : ¬ t.rest + m - t.div < 0 := by omega
   have Y7 : bM _ _ { t with sec := u2, rest := t.rest + m - t.div } := (Y6.s3 u2).s1 (t.rest + m - t.div)
   have X7 := (X6.other (w.heap.size + 2) 3 (.int .u64 u2) (by omega)).other (w.heap.size + 2) 1 (.int .u32 (t.rest + m - t.div)) (by omega)
   have G7 := (G6.other (w.heap.size + 2) 3 (.int .u64 u2) (by omega)).other (w.heap.size + 2) 1 (.int .u32 (t.rest + m - t.div)) (by omega)
   have B7 := (B6.setCell (p := ⟨w.heap.size + 2, 3, none⟩) (by simp) (.int .u64 u2)).setCell (p := ⟨w.heap.size + 2, 1, none⟩) (by simp) (.int .u32 (t.rest + m - t.div))
   clear X6 G6 Y6 B6
   go_upto_region 9 with (go_at_call 124; refine (HA2.out _).mono ?_; rintro e w' ⟨rfl, rfl⟩)
   clear y1 y3 f3 f1 HA2
   generalize (W4.setCell ⟨w.heap.size + 2, 3, none⟩ (.int .u64 u2)).setCell ⟨w.heap.size + 2, 1, none⟩ (.int .u32 (t.rest + m - t.div)) = W5 at *
   exact wT
 . have hw := HW.out
   rw [if_neg hge] at hw
   rw [hw] at HK
   clear hw HW HA2
   have f1 := Y6.free 1
   have y1 := Y6.c1
   have Y7 : bM _ _ { t with sec := u, rest := t.rest + m } := Y6.s1 (t.rest + m)
   have X7 := X6.other (w.heap.size + 2) 1 (.int .u32 (t.rest + m)) (by omega)
   have G7 := G6.other (w.heap.size + 2) 1 (.int .u32 (t.rest + m)) (by omega)
   have B7 := B6.setCell (p := ⟨w.heap.size + 2, 1, none⟩) (by simp) (.int .u32 (t.rest + m))
   clear X6 G6 Y6 B6
   go_upto_region 9 with (fail)
   clear f1 y1
   generalize W4.setCell ⟨w.heap.size + 2, 1, none⟩ (.int .u32 (t.rest + m)) = W5 at *
   exact wT
theorem wS (x d f : Int) (d0 : 1 <= d) : (rS - f) / d < x ↔ rS < x * d + f := by
 rw [Int.ediv_lt_iff_lt_mul (by omega)]; omega
theorem aNp (t : Rk) (w : World) (h : t.ok) :
 Calls prog 161 #[.agg (kl t).toArray] w fun e w' => e = .returned (.int .u64 t.left) /\ Below w.heap.size w w' := by
 have hB := aE (aI w) (oK t)
 have X : bM (w.alloc (oK t)) w.heap.size t := aD w _
 have HM := Hd (fun w' => aIA t w' h)
 have HA := Hd (fun w' => aBv t w' h)
 obtain ⟨a0, a1⟩ := Rk.alarm_bounds h
 have x6 := X.c6
 by_cases hc : t.en = true /\ t.met = false
 . obtain ⟨hen, hm⟩ := hc
   have hl := aC7 hen hm
   have ha : t.sec < t.alarm := by unfold Rk.met at hm; rw [hen] at hm; simpa using hm
   rw [hm] at HM
   rw [hen] at x6
   obtain ⟨L, hL⟩ : ∃ L, t.left = L := ⟨_, rfl⟩
   rw [hL] at hl ⊢
   clear hL
   have HE := Hd hl
   obtain ⟨d0, d1, r0, r1, _, _, s0, s1, _, _, _, _⟩ := h
   clear hl hm hen
   obtain ⟨A, hA⟩ : ∃ A, t.alarm = A := ⟨_, rfl⟩
   rw [hA] at HE HA a0 a1 ha
   clear hA
   go_enter func161, ntmps161
   go_upto_region 1 with (fail)
   rw [eI]
   generalize w.alloc (oK t) = W at *
   go_wp2_with (first | (refine aCd (.tmp 1) rfl rfl rfl X ?_) | (refine cW rfl (.tmp 1) rfl rfl X ?_))
   refine (HM.out _).mono ?_
   rintro e W1 ⟨rfl, hb⟩
   have X1 := X.below hb
   have hB1 := tr hB hb
   clear X hB hb HM x6
   go_upto_region 3 with (fail)
   have x3 := X1.c3
   have hl := X1.lt
   have hg := bI
   have hws : IntKind.u64.wrap (A - t.sec) = A - t.sec := IntWalk.u64_in _ (by omega)
   refine wp_region_quiet_below (by kernel_rfl) (by kernel_rfl) ?_
   repeat (first
    | go_big_quiet_skip
    | (go_big_quiet_want; first
        | (refine aCG (.tmp 1) rfl rfl X1.grown ?_; go_simp; go_big_quiet_on)
        | (go_big_quiet_op; first
            | go_big_quiet_on
            | go_big_quiet_call (first | (go_at_call 157; exact Calls.regrown_of (HA.out _))))))
   refine wpQuiet_nil ?_
   intro _ hw'
   obtain ⟨⟨dq2, osq2⟩, hw''⟩ := hw'
   subst hw''
   clear x3 hg hl hws
   have hb2 := below_regrown W1 dq2 osq2
   have X2 := X1.below hb2
   have hB2 := tr hB1 hb2
   clear X1 hB1 hb2
   generalize grow (redrawn W1 dq2) osq2 = W2 at *
   have x0 := X2.c0
   have x1 := X2.c1
   go_upto_region 6 with (fail)
   have hx := wS (A - t.sec - 1) t.div (t.div - t.rest) d0
   by_cases hov : rS < (A - t.sec - 1) * t.div + (t.div - t.rest)
   . have h1 := hx.2 hov
     unfold rS at h1
     have HE2 := Hd (HE.out.trans (if_pos hov))
     clear hx hov HE
     go_wp2_with fail
     go_ret
     exact ⟨bH HE2.out.symm, hB2⟩
   . have h1 : ¬ (18446744073709551615 - (t.div - t.rest)) / t.div < A - t.sec - 1 := fun e => hov (hx.1 e)
     have p0 : 0 <= (A - t.sec - 1) * t.div := Int.mul_nonneg (by omega) (by omega)
     have p1 : (A - t.sec - 1) * t.div + (t.div - t.rest) < 18446744073709551616 := by unfold rS at hov; omega
     have p2 : (A - t.sec - 1) * t.div < 18446744073709551616 := by omega
     have HE2 := Hd (HE.out.trans (if_neg hov))
     clear hx hov HE
     go_wp2_with fail
     go_ret
     exact ⟨bH HE2.out.symm, hB2⟩
 . have hl : t.left = rS := by unfold Rk.left; rw [if_neg hc]
   rw [hl]
   obtain ⟨en, hen⟩ : ∃ en, t.en = en := ⟨_, rfl⟩
   obtain ⟨m, hm⟩ : ∃ m, t.met = m := ⟨_, rfl⟩
   rw [hen, hm] at hc
   rw [hen] at x6
   rw [hm] at HM
   clear hl hen hm HA
   cases en
   . clear hc HM
     go_enter func161, ntmps161
     go_upto_region 1 with (fail)
     rw [eI]
     generalize w.alloc (oK t) = W at *
     go_wp2_with fail
     go_ret
     exact ⟨rfl, hB⟩
   . cases m
     . exact absurd ⟨rfl, rfl⟩ hc
     . clear hc
       go_enter func161, ntmps161
       go_upto_region 1 with (fail)
       rw [eI]
       generalize w.alloc (oK t) = W at *
       go_wp2_with (first | (refine aCd (.tmp 1) rfl rfl rfl X ?_) | (refine cW rfl (.tmp 1) rfl rfl X ?_))
       refine (HM.out _).mono ?_
       rintro e W1 ⟨rfl, hb⟩
       have hB1 := tr hB hb
       clear X hB hb HM x6
       go_wp2_with fail
       go_ret
       exact ⟨rfl, hB1⟩
end Go.Proofs.YtpojmmgokgamgaaGreat.B
