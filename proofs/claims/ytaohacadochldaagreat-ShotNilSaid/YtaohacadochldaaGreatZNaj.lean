/- A part of the proof of a law of layer 12: aj. -/
import Derived.Test.YtaohacadochldaaGreatZNai
set_option linter.unusedVariables false
set_option linter.unusedSimpArgs false
set_option maxHeartbeats 12800000
set_option maxRecDepth 100000
namespace Go.Proofs.YtaohacadochldaaGreat.B
open Go.Proofs.Tryz
open Go.ChangeShapes Go.WideShapes Go.RowKit Go.Sort
theorem aB7 (b : Bool) : (tk b == 1) = b := by cases b <;> rfl
theorem iE : (prog.info? 246).map (·.size) = some 7 := by kernel_rfl
def e7 (d r s : Int) (sec a : Int) (en st : Int) : List Value := [.int .u32 d, .int .u32 r, .int .u32 s, .int .u64 sec, .int .u64 a, .int .u32 en, .int .u32 st]
def el (t : Rk) : List Value := e7 t.div t.rest t.set t.sec t.alarm (tk t.en) (tk t.st)
theorem aBM (d r s sec a en st : Int) : ∀ x ∈ e7 d r s sec a en st, x.oneCell' = true := by
 intro x h
 simp only [e7, List.mem_cons, List.not_mem_nil, or_false] at h
 rcases h with rfl | rfl | rfl | rfl | rfl | rfl | rfl <;> rfl
abbrev bW : TypeId := 248
abbrev eE : TypeId := 246
def aX (w : World) (b : Nat) (T : TypeId) (t : Rk) : Prop := w.heap[b]? = some (.cells (el t).toArray T (0, 0))
section
variable {w w' : World} {b : Nat} {T : TypeId} {t : Rk}
theorem aX.lt (h : aX w b T t) : b < w.heap.size := lt_of_block h
theorem aX.below (h : aX w b T t) (hb : Below w.heap.size w w') : aX w' b T t := aB hb h h.lt
theorem aX.off {S : Nat -> Prop} (h : aX w b T t) (ho : aD S w w') (hs : ¬ S b) : aX w' b T t := ho.at h hs
theorem aX.free (h : aX w b T t) (j : Nat) : w.frozen? ⟨b, j, none⟩ = false := aH h j
theorem aX.c0 (h : aX w b T t) : w.cell? ⟨b, 0, none⟩ = some (.int .u32 t.div) := by rw [aA h 0]; rfl
theorem aX.c1 (h : aX w b T t) : w.cell? ⟨b, 1, none⟩ = some (.int .u32 t.rest) := by rw [aA h 1]; rfl
theorem aX.c2 (h : aX w b T t) : w.cell? ⟨b, 2, none⟩ = some (.int .u32 t.set) := by rw [aA h 2]; rfl
theorem aX.c3 (h : aX w b T t) : w.cell? ⟨b, 3, none⟩ = some (.int .u64 t.sec) := by rw [aA h 3]; rfl
theorem aX.c4 (h : aX w b T t) : w.cell? ⟨b, 4, none⟩ = some (.int .u64 t.alarm) := by rw [aA h 4]; rfl
theorem aX.c5 (h : aX w b T t) : w.cell? ⟨b, 5, none⟩ = some (.int .u32 (tk t.en)) := by rw [aA h 5]; rfl
theorem aX.c6 (h : aX w b T t) : w.cell? ⟨b, 6, none⟩ = some (.int .u32 (tk t.st)) := by rw [aA h 6]; rfl
theorem aX.set (h : aX w b T t) (j : Nat) (x : Value) {s : Rk} (he : (el t).set j x = el s) : aX (w.setCell ⟨b, j, none⟩ x) b T s := by
 unfold aX; rw [aK h, <- he]; simp
theorem aX.s1 (h : aX w b T t) (x : Int) : aX (w.setCell ⟨b, 1, none⟩ (.int .u32 x)) b T { t with rest := x } := h.set _ _ rfl
theorem aX.s2 (h : aX w b T t) (x : Int) : aX (w.setCell ⟨b, 2, none⟩ (.int .u32 x)) b T { t with set := x } := h.set _ _ rfl
theorem aX.s3 (h : aX w b T t) (x : Int) : aX (w.setCell ⟨b, 3, none⟩ (.int .u64 x)) b T { t with sec := x } := h.set _ _ rfl
theorem aX.s4 (h : aX w b T t) (a l : Int) : aX (w.setCell ⟨b, 4, none⟩ (.int .u64 (aV a l))) b T { t with ah := a, al := l } := h.set _ _ rfl
theorem aX.s5 (h : aX w b T t) (x : Bool) : aX (w.setCell ⟨b, 5, none⟩ (.int .u32 (tk x))) b T { t with en := x } := h.set _ _ rfl
theorem aX.s6 (h : aX w b T t) (x : Bool) : aX (w.setCell ⟨b, 6, none⟩ (.int .u32 (tk x))) b T { t with st := x } := h.set _ _ rfl
theorem aX.other (h : aX w b T t) (k j : Nat) (x : Value) (hne : b ≠ k) : aX (w.setCell ⟨k, j, none⟩ x) b T t := aN h k j x hne
theorem aX.row {old : Array Value} (h : w.heap[b]? = some (.cells old T (0, 0))) (t : Rk) : aX (w.setRow b (el t).toArray) b T t := dJ _ h
theorem aX.elseRow (h : aX w b T t) (g : Nat) (cs : Array Value) (hne : b ≠ g) : aX (w.setRow g cs) b T t := dR g cs h hne
theorem aX.alloc (h : aX w b T t) (o : Obj) : aX (w.alloc o) b T t := (aJ w o h.lt).trans h
theorem aX.grown (h : aX w b T t) : ∀ w', (∃ p : Regrown, w' = grow (redrawn w p.d) p.os) -> aX w' b T t := cH h
end
section
variable {ops : Array Oper} {rest : List Oper} {o : Oper} {a : Act} {w : World} {Q : Exit -> Act -> World -> Prop}
theorem rW (hgd : o.guard = none) (x : Operand) (ho : o.op = .load 246 x) {b : Nat} {T : TypeId} (hx : a.eval x = .pointer (some ⟨b, 0, none⟩)) {t : Rk} (hg : aX w b T t)
 (h : wpList prog ops Q rest (a.put o.dst (.agg (el t).toArray)) w) : wpList prog ops Q (o :: rest) a w :=
 cA hgd _ x ho b 0 hx _ (el t) hg underlying246 rfl iE (bK _) h
theorem nR (hgd : o.guard = none) (x y : Operand) (ho : o.op = .store 246 x y) {b : Nat} {T : TypeId} (hx : a.eval x = .pointer (some ⟨b, 0, none⟩)) {t : Rk} (hy : a.eval y = .agg (el t).toArray) {t' : Rk} (hg : aX w b T t')
 (h : wpList prog ops Q rest (a.put o.dst undef) (w.setRow b (el t).toArray)) : wpList prog ops Q (o :: rest) a w := by
 refine aW hgd _ x y ho b 0 hx (el t) hy hg iE (by simp [el, e7]) (aBM _ _ _ _ _ _ _) ?_
 rw [cJ _ _ (by simp [el, e7])]
 exact h
theorem aBt {C : World -> Prop} {K : Act -> Prop} (x : Operand) (ho : o.op = .load 246 x) {b : Nat} {T : TypeId} (hx : a.eval x = .pointer (some ⟨b, 0, none⟩)) {t : Rk} (hg : ∀ w, C w -> aX w b T t)
 (h : K (a.put o.dst (.agg (el t).toArray))) : o.quiet prog a C K :=
 eN _ x ho b 0 hx _ (el t) (fun w hw => hg w hw) underlying246 rfl iE (bK _) h
end
theorem aDC {fn : Func} {p : Tmp} (h : fn.results = #[.cell p 246]) (tmps : Array Value) (w : World) {b : Nat} {T : TypeId} {t : Rk} (hp : tmps[p]? = some (.pointer (some ⟨b, 0, none⟩))) (hg : aX w b T t) :
 (results fn tmps).run prog w = .ok (.agg (el t).toArray) w :=
 bL h tmps w b 0 _ (el t) hp hg underlying246 rfl iE (bK _)
def oE (T : TypeId) (t : Rk) : Obj := .cells (el t).toArray T (0, 0)
theorem xE (T : TypeId) (t : Rk) : Obj.cells (el t).toArray T (0, 0) = oE T t := rfl
theorem aAv (T : TypeId) : Obj.cells #[.int .u32 0, .int .u32 0, .int .u32 0, .int .u64 0, .int .u64 0, .int .u32 0, .int .u32 0] T (0, 0) = oE T zG := rfl
theorem qN (w : World) (T : TypeId) (t : Rk) : aX (w.alloc (oE T t)) w.heap.size T t := aF w _
theorem pC (w : World) (p : Nat) (cs : Array Value) : aD (· = p) w (w.setRow p cs) := ⟨rfl, rfl, rfl, by simp, fun k _ hs => setRow_other w p k cs hs⟩
theorem aAl (t : Rk) (w : World) (h : t.ok) : Calls prog 229 #[.agg (el t).toArray] w fun e w' => e = .returned (.bool false) /\ Below w.heap.size w w' := by
 have X := qN w eE t
 have hb := aO (aT w) (oE eE t)
 have q : (t.div == 0) = false := by have := h.d0; simp; omega
 clear h
 go_enter func229, ntmps229
 go_upto_region 1 with (fail)
 rw [xE]
 generalize w.alloc (oE eE t) = W at *
 have x0 := X.c0
 have x1 := X.c1
 have x2 := X.c2
 have x3 := X.c3
 have x4 := X.c4
 have x5 := X.c5
 have x6 := X.c6
 clear X
 exact cV
theorem vP (t : Rk) (p : Nat) (w : World) (a : aX w p bW t) : Calls prog 191 #[.pointer (some ⟨p, 0, none⟩)] w fun e w' => e = .returned (.agg (el t).toArray) /\ Below w.heap.size w w' := by
 have X := qN w eE zG
 have A := a.alloc (oE eE zG)
 have hb := aO (aT w) (oE eE zG)
 go_enter func191, ntmps191
 go_upto_region 1 with (fail)
 rw [aAv]
 clear a
 generalize w.alloc (oE eE zG) = W at *
 have Z := aX.row X t
 have hB := aM hb (el t).toArray (g := w.heap.size) (Nat.le_refl _)
 go_wp2_with (first | (refine rW rfl (.tmp 8) rfl rfl A ?_) | (refine nR rfl (.tmp 2) (.tmp 9) rfl rfl (t := t) rfl X ?_))
 exact bodyPost_ret (aDC rfl _ _ rfl Z) rfl ⟨rfl, hB⟩
theorem aCn (t : Rk) (w : World) (h : t.ok) : Calls prog 211 #[.agg (el t).toArray] w fun e w' => e = .returned (.bool t.met) /\ Below w.heap.size w w' := by
 have X := qN w eE t
 have hb := aO (aT w) (oE eE t)
 have x3 := X.c3
 have x4 := X.c4
 have x5 := X.c5
 obtain ⟨m, hm⟩ : ∃ m, t.met = m := ⟨_, rfl⟩
 rw [hm]
 unfold Rk.met at hm
 obtain ⟨A, hA⟩ : ∃ A, t.alarm = A := ⟨_, rfl⟩
 rw [hA] at hm x4
 clear hA h
 cases hen : t.en
 all_goals
  rw [hen] at hm x5
  unfold tk at x5
  have hM := Hd hm
  clear hen hm
  go_enter func211, ntmps211
  go_upto_region 1 with (fail)
  rw [xE]
  generalize w.alloc (oE eE t) = W at *
  go_wp2_with fail
  go_ret
  exact ⟨bM (by rw [<- hM.out]; simp), hb⟩
theorem aDf (d : Int) (w : World) (d0 : 1 <= d) (d1 : d < 4294967296) : Calls prog 99 #[.int .u32 d] w fun e w' => e = .returned (.tuple #[.pointer (some ⟨w.heap.size, 0, none⟩), .int .i64 0]) /\ w' = w.alloc (oE bW (rk0 d)) := by
 have q : (d == 0) = false := by simp; omega
 have hz : Obj.cells #[.int .u32 d, .int .u32 0, .int .u32 0, .int .u64 0, .int .u64 0, .int .u32 0, .int .u32 0] bW (0, 0) = oE bW (rk0 d) := rfl
 rw [<- hz]
 clear hz
 go_enter func99, ntmps99
 exact dZ
theorem aCr (d r s sec a en st : Int) (w : World) : (Instr.field 246 (.agg #[.int .u32 d, .int .u32 r, .int .u32 s, .int .u64 sec, .int .u64 a, .int .u32 en, .int .u32 st]) 6).run prog w = .ok (.int .u32 st) w := by
 have ha : (isAgg 26).run prog w = .ok false w := by kernel_rfl
 simp [Instr.field, Sem.run_bind, run_underlying underlying246, part, ha, asAgg]
theorem aCl (t : Rk) (p : Nat) (w : World) (a : aX w p bW t) : Calls prog 115 #[.pointer (some ⟨p, 0, none⟩)] w fun e w' => e = .returned (.bool t.st) /\ Below w.heap.size w w' := by
 go_enter func115, ntmps115
 go_wp2_with fail
 refine (vP t p _ a).mono ?_
 rintro e w1 ⟨rfl, hb⟩
 have hf := aCr t.div t.rest t.set t.sec t.alarm (tk t.en) (tk t.st)
 unfold el e7
 go_wp2_with fail
 go_ret
 exact ⟨bM (aB7 _), hb⟩
theorem uQ {t : Rk} (h : t.ok) {n : Int} (n0 : 0 <= n) : t.adv n = if t.div <= t.rest + n % t.div then { t with sec := eF t.sec (n / t.div + 1), rest := t.rest + n % t.div - t.div } else { t with sec := eF t.sec (n / t.div), rest := t.rest + n % t.div } := by
 obtain ⟨e1, e2⟩ := sM t.rest n t.div h.d0 h.r0 h.r1
 have q := Int.ediv_nonneg n0 (show 0 <= t.div by have := h.d0; omega)
 unfold Rk.adv
 rw [e1, e2]
 split
 . simp only [Rk.mk.injEq, and_true, true_and]
   rw [nZ]
 . simp only [Rk.mk.injEq, and_true, true_and]
   rw [nZ, Int.add_zero]
theorem aAm {a : Int} (h0 : 0 <= a) (h1 : a < 4294967296) : lo a = a := by unfold lo; omega
theorem oW (a b : Int) (h0 : 0 <= b) (h1 : b < 4294967296) : lo (aV a b) = b := by unfold lo aV; omega
theorem oN (a b : Int) (h0 : 0 <= b) (h1 : b < 4294967296) : hi (aV a b) = a := by unfold hi aV; omega
theorem xU {n d r : Int} (n0 : 0 <= n) (n1 : n < 18446744073709551616) (d0 : 1 <= d) (r0 : 0 <= r) (r1 : r < d) (h : d <= r + n % d) : n / d + 1 < 18446744073709551616 := by
 have m1 := Int.emod_lt_of_pos n (show 0 < d by omega)
 have d2 : 2 <= d := by omega
 have q0 := Int.ediv_nonneg n0 (show 0 <= d by omega)
 have e := Int.mul_ediv_add_emod n d
 have m0 := Int.emod_nonneg n (show d ≠ 0 by omega)
 have p : 2 * (n / d) <= d * (n / d) := Int.mul_le_mul_of_nonneg_right d2 q0
 omega
theorem lJ {P : Prop} (h : P := by
 have Z := aX.row Y2 R
 have hB := aM B2 (el R).toArray (g := w.heap.size + 1) (by omega)
 go_wp2_with (first | (refine rW rfl (.tmp 2) rfl rfl X2 ?_) | (refine nR rfl (.tmp 4) (.tmp 37) rfl rfl (t := R) rfl Y2 ?_))
 exact bodyPost_ret (aDC rfl _ _ rfl Z) rfl ⟨rfl, hB⟩
 ) : P := h
theorem aBN (t : Rk) (n : Int) (w : World) (h : t.ok) (n0 : 0 <= n) (n1 : n < 18446744073709551616) :
 Calls prog 302 #[.agg (el t).toArray, .int .u64 n] w fun e w' => e = .returned (.agg (el (t.adv n)).toArray) /\ Below w.heap.size w w' := by
 have hB := aO (aO (aT w) (oE eE t)) (oE eE zG)
 have X : aX ((w.alloc (oE eE t)).alloc (oE eE zG)) w.heap.size eE t := hJ w _ _
 have Y : aX ((w.alloc (oE eE t)).alloc (oE eE zG)) (w.heap.size + 1) eE zG := fU w _ _
 have hw := uQ h n0
 have hro := xU n0 n1 h.d0 h.r0 h.r1
 obtain ⟨R, hR⟩ : ∃ R, t.adv n = R := ⟨_, rfl⟩
 rw [hR] at hw ⊢
 clear hR
 obtain ⟨d0, d1, r0, r1, w0, w1, s0, s1, _, _, _, _⟩ := h
 have q0 := Int.ediv_nonneg n0 (show 0 <= t.div by omega)
 have q1 : n / t.div < 18446744073709551616 := Int.lt_of_le_of_lt (Int.ediv_le_self _ n0) n1
 have m0 := Int.emod_nonneg n (show t.div ≠ 0 by omega)
 have m1 := Int.emod_lt_of_pos n (show 0 < t.div by omega)
 have hq : n.tdiv t.div = n / t.div := Int.tdiv_eq_ediv_of_nonneg n0
 have hm : n.tmod t.div = n % t.div := Int.tmod_eq_emod_of_nonneg n0
 obtain ⟨q, hq2⟩ : ∃ q, n / t.div = q := ⟨_, rfl⟩
 obtain ⟨m, hm2⟩ : ∃ m, n % t.div = m := ⟨_, rfl⟩
 rw [hq2] at hq q0 q1 hw hro
 rw [hm2] at hm m0 m1 hw hro
 have hne : (t.div == 0) = false := by simp; omega
 clear hq2 hm2
 have HW := Hd hw
 have HQ := Hd hq
 have HR := Hd hm
 have HO := Hd hro
 clear hw hq hm hro
 go_enter func302, ntmps302
 go_upto_region 1 with (fail)
 rw [aAv, xE]
 generalize (w.alloc (oE eE t)).alloc (oE eE zG) = W at *
 have x0 := X.c0
 have x1 := X.c1
 go_upto_region 2 with (fail)
 have hl := X.lt
 have hg := bP
 have hwr : IntKind.u64.wrap (t.rest + m) = t.rest + m := IntWalk.u64_in _ (by omega)
 have HR2 := HR.out
 have HQ2 := HQ.out
 refine wp_region_quiet_below (by kernel_rfl) (by kernel_rfl) ?_
 repeat (go_big_quiet_step (fail))
 refine wpQuiet_nil ?_
 intro _ hw'
 obtain ⟨⟨dq2, osq2⟩, hw''⟩ := hw'
 subst hw''
 clear HR2 HQ2 hwr x0 x1 hg hl
 have hb2 := below_regrown W dq2 osq2
 have X1 := X.below hb2
 have Y1 := Y.below hb2
 have B1 := tr hB hb2
 clear X Y hB hb2
 generalize grow (redrawn W dq2) osq2 = W1 at *
 have x3 := X1.c3
 have f3 := X1.free 3
 have f1 := X1.free 1
 have x1 := X1.c1
 by_cases hge : t.div <= t.rest + m
 . have hw := HW.out
   rw [if_pos hge] at hw
   have hro := HO.out hge
   have hlt2 : ¬ t.rest + m - t.div < 0 := by omega
   have HA := Hd (fun w => Add t.sec (q + 1) w s0 s1 (by omega) (by omega))
   have HL := Hd (fun w => by have := Lo (t.rest + m - t.div) w (by omega) (by omega); rw [aAm (by omega) (by omega)] at this; exact this)
   obtain ⟨u, hu⟩ : ∃ u, eF t.sec (q + 1) = u := ⟨_, rfl⟩
   rw [hu] at hw HA
   clear hu HW HO
   have X2 := (X1.s3 u).s1 (t.rest + m - t.div)
   rw [<- hw] at X2
   have Y2 := (Y1.other w.heap.size 3 (.int .u64 u) (by omega)).other w.heap.size 1 (.int .u32 (t.rest + m - t.div)) (by omega)
   have B2 := (B1.setCell (p := ⟨w.heap.size, 3, none⟩) (by simp) (.int .u64 u)).setCell (p := ⟨w.heap.size, 1, none⟩) (by simp) (.int .u32 (t.rest + m - t.div))
   clear X1 Y1 B1 hw
   go_upto_region 6 with (first | (go_at_call 274; refine (HA.out _).mono ?_; rintro e w' ⟨rfl, rfl⟩) | (go_at_call 55; refine (HL.out _).mono ?_; rintro e w' ⟨rfl, rfl⟩))
   clear x3 f3 f1 x1 HA HL
   generalize (W1.setCell ⟨w.heap.size, 3, none⟩ (.int .u64 u)).setCell ⟨w.heap.size, 1, none⟩ (.int .u32 (t.rest + m - t.div)) = W2 at *
   exact lJ
 . have hw := HW.out
   rw [if_neg hge] at hw
   have HA := Hd (fun w => Add t.sec (q) w s0 s1 (by omega) (by omega))
   have HL := Hd (fun w => by have := Lo (t.rest + m) w (by omega) (by omega); rw [aAm (by omega) (by omega)] at this; exact this)
   obtain ⟨u, hu⟩ : ∃ u, eF t.sec (q) = u := ⟨_, rfl⟩
   rw [hu] at hw HA
   clear hu HW HO
   have X2 := (X1.s3 u).s1 (t.rest + m)
   rw [<- hw] at X2
   have Y2 := (Y1.other w.heap.size 3 (.int .u64 u) (by omega)).other w.heap.size 1 (.int .u32 (t.rest + m)) (by omega)
   have B2 := (B1.setCell (p := ⟨w.heap.size, 3, none⟩) (by simp) (.int .u64 u)).setCell (p := ⟨w.heap.size, 1, none⟩) (by simp) (.int .u32 (t.rest + m))
   clear X1 Y1 B1 hw
   go_upto_region 6 with (first | (go_at_call 274; refine (HA.out _).mono ?_; rintro e w' ⟨rfl, rfl⟩) | (go_at_call 55; refine (HL.out _).mono ?_; rintro e w' ⟨rfl, rfl⟩))
   clear x3 f3 f1 x1 HA HL
   generalize (W1.setCell ⟨w.heap.size, 3, none⟩ (.int .u64 u)).setCell ⟨w.heap.size, 1, none⟩ (.int .u32 (t.rest + m)) = W2 at *
   exact lJ
theorem qM (t : Rk) (o : Int) (p : Nat) (w : World) (h : t.ok) (a : aX w p bW t) (o0 : 0 <= o) (o1 : o < 4294967296) :
 Calls prog 209 #[.pointer (some ⟨p, 0, none⟩), .int .u32 o] w fun e w' => e = .returned (.int .i64 (cB o)) /\ Below w.heap.size w w' := by
 have HN := Hd (fun w => aAl t w h)
 cases h4 : (o % 4 != 0)
 . by_cases h36 : 36 <= o
   . have HE := Hd (show cB o = 10 by unfold cB; rw [if_neg (by simpa using h4), if_pos h36])
     go_enter func209, ntmps209
     go_wp2_with fail
     refine (vP t p _ a).mono ?_
     exact dK
   . have HE := Hd (show cB o = 0 by unfold cB; rw [if_neg (by simpa using h4), if_neg h36])
     go_enter func209, ntmps209
     go_wp2_with fail
     refine (vP t p _ a).mono ?_
     exact dK
 . have HE := Hd (show cB o = 11 by unfold cB; rw [if_pos (by simpa using h4)])
   go_enter func209, ntmps209
   go_wp2_with fail
   refine (vP t p _ a).mono ?_
   exact dK
theorem lK {P : Prop} (h : P := by
 clear he h a b0 b1
 go_enter func210, ntmps210
 go_wp2_with (go_at_call 56; refine (HC.out _).mono ?_; rintro e w' ⟨rfl, rfl⟩)
 go_ret
 exact ⟨rfl, rfl⟩
 ) : P := h
theorem lN {P : Prop} (h : P := by
 clear he h a b0 b1
 go_enter func210, ntmps210
 go_wp2_with (go_at_call 55; refine (HC.out _).mono ?_; rintro e w' ⟨rfl, rfl⟩)
 go_ret
 exact ⟨rfl, rfl⟩
 ) : P := h
theorem aBR (t : Rk) (o : Int) (p : Nat) (w : World) (h : t.ok) (a : aX w p bW t) (o0 : 0 <= o) (he : cB o = 0) :
 Calls prog 210 #[.pointer (some ⟨p, 0, none⟩), .int .u32 o] w fun e w' => e = .returned (.int .u32 (t.val o)) /\ w = w' := by
 obtain ⟨V, hV⟩ : ∃ V, t.val o = V := ⟨_, rfl⟩
 rw [hV]
 obtain ⟨b0, b1⟩ := Rk.alarm_bounds h
 rcases jY o0 he with rfl | rfl | rfl | rfl | rfl | rfl | rfl | rfl | rfl
 . replace hV : lo t.sec = V := hV
   subst hV
   have HC := Hd (fun w => Lo t.sec w h.s0 h.s1)
   have x := a.c3
   exact lN
 . replace hV : hi t.sec = V := hV
   subst hV
   have HC := Hd (fun w => Hi t.sec w h.s0 h.s1)
   have x := a.c3
   exact lK
 . replace hV : t.set = V := hV
   subst hV
   have x := a.c2
   clear he h a b0 b1
   go_enter func210, ntmps210
   exact aI
 . replace hV : 0 = V := hV
   subst hV
   clear he h a b0 b1
   go_enter func210, ntmps210
   exact aI
 . replace hV : t.al = V := hV
   subst hV
   have HC := Hd (fun w => by have := Lo t.alarm w b0 b1; unfold Rk.alarm at this; rw [oW _ _ h.l0 h.l1] at this; exact this)
   have x := a.c4
   exact lN
 . replace hV : t.ah = V := hV
   subst hV
   have HC := Hd (fun w => by have := Hi t.alarm w b0 b1; unfold Rk.alarm at this; rw [oN _ _ h.l0 h.l1] at this; exact this)
   have x := a.c4
   exact lK
 . replace hV : tk t.en = V := hV
   subst hV
   have x := a.c5
   clear he h a b0 b1
   go_enter func210, ntmps210
   exact aI
 . replace hV : tk t.st = V := hV
   subst hV
   have x := a.c6
   clear he h a b0 b1
   go_enter func210, ntmps210
   exact aI
 . replace hV : t.div = V := hV
   subst hV
   have x := a.c0
   clear he h a b0 b1
   go_enter func210, ntmps210
   exact aI
theorem aCm (t : Rk) (o : Int) (p : Nat) (w : World) (h : t.ok) (a : aX w p bW t) (o0 : 0 <= o) (o1 : o < 4294967296) :
 Calls prog 166 #[.pointer (some ⟨p, 0, none⟩), .int .u32 o] w fun e w' => e = .returned (.tuple #[.int .u32 (t.valE o), .int .i64 (cB o)]) /\ Below w.heap.size w w' := by
 have HC := Hd (fun w a => qM t o p w h a o0 o1)
 have HV := Hd (fun w a he => aBR t o p w h a o0 he)
 have HD := Hd (show t.valE o = if cB o = 0 then t.val o else 0 from rfl)
 obtain ⟨V, hV⟩ : ∃ V, t.valE o = V := ⟨_, rfl⟩
 obtain ⟨U, hU⟩ : ∃ U, t.val o = U := ⟨_, rfl⟩
 obtain ⟨E, hE⟩ : ∃ E, cB o = E := ⟨_, rfl⟩
 rw [hV, hU, hE] at HD
 rw [hV, hE]
 rw [hE] at HC HV
 rw [hU] at HV
 clear hV hU hE h
 by_cases he : E = 0
 . subst he
   have hv := HD.out
   rw [if_pos rfl] at hv
   subst hv
   have HV2 := Hd (fun w a => HV.out w a rfl)
   clear HV HD
   go_enter func166, ntmps166
   go_wp2_with fail
   refine (HC.out _ a).mono ?_
   rintro e w1 ⟨rfl, h1⟩
   have A := a.below h1
   go_wp2_with fail
   refine (HV2.out _ A).mono ?_
   rintro e w2 ⟨rfl, rfl⟩
   exact cU
 . have hv := HD.out
   rw [if_neg he] at hv
   subst hv
   have hn : (E == 0) = false := by simpa using he
   have hn2 : (E != 0) = true := by simpa using he
   clear HV HD he
   go_enter func166, ntmps166
   go_wp2_with fail
   refine (HC.out _ a).mono ?_
   rintro e w1 ⟨rfl, h1⟩
   exact cU
theorem aBO (t : Rk) (p : Nat) (w : World) (a : aX w p bW t) :
 Calls prog 295 #[.pointer (some ⟨p, 0, none⟩)] w fun e w' => e = .returned (.tuple #[]) /\ aX w' p bW t.zero /\ aD (· = p) w w' := by
 have x0 := a.c0
 have x1 := a.c1
 have x3 := a.c3
 have hl := a.lt
 go_enter func295, ntmps295
 go_upto_region 1 with (fail)
 have hg := bP
 have hf := bF
 refine aE 19 (by kernel_rfl) (by kernel_rfl) ?_
 simp only [List.take_succ_cons, List.take_zero, List.drop_succ_cons, List.drop_zero]
 repeat (go_big_quiet_step (fail))
 refine wpQuiet_nil ?_
 intro _ hw'
 obtain ⟨⟨dq, osq⟩, hw''⟩ := hw'
 subst hw''
 have hb := below_regrown w dq osq
 have A := a.below hb
 have ho := aD.ofBelow (S := (· = p)) hb
 clear x0 x1 x3 hl hg hf a hb
 generalize grow (redrawn w dq) osq = W at *
 go_wp2_with (refine nR rfl (.tmp 22) (.tmp 20) rfl rfl (t := t.zero) rfl A ?_)
 go_end0
 exact ⟨rfl, aX.row A t.zero, ho.trans (pC _ _ _)⟩
end Go.Proofs.YtaohacadochldaaGreat.B
