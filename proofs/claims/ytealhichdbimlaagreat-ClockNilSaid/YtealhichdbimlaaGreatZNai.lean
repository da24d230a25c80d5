/- A part of the proof of a law of layer 12: ai. -/
import Derived.Test.YtealhichdbimlaaGreatZNah
set_option linter.unusedVariables false
set_option linter.unusedSimpArgs false
set_option maxHeartbeats 12800000
set_option maxRecDepth 100000
namespace Go.Proofs.YtealhichdbimlaaGreat.B
open Go.Proofs.Tryz
open Go.ChangeShapes Go.WideShapes Go.RowKit Go.Sort
theorem aAP (b : Bool) : (tk b == 1) = b := by cases b <;> rfl
theorem iE : (prog.info? 243).map (·.size) = some 7 := by kernel_rfl
def e7 (d r s : Int) (sec a : Int) (en st : Int) : List Value := [.int .u32 d, .int .u32 r, .int .u32 s, .int .u64 sec, .int .u64 a, .int .u32 en, .int .u32 st]
def el (t : Rk) : List Value := e7 t.div t.rest t.set t.sec t.alarm (tk t.en) (tk t.st)
theorem yJ (d r s sec a en st : Int) : ∀ x ∈ e7 d r s sec a en st, x.oneCell' = true := by
 intro x h
 simp only [e7, List.mem_cons, List.not_mem_nil, or_false] at h
 rcases h with rfl | rfl | rfl | rfl | rfl | rfl | rfl <;> rfl
abbrev dH : TypeId := 261
abbrev dQ : TypeId := 243
def bA (w : World) (b : Nat) (T : TypeId) (t : Rk) : Prop := w.heap[b]? = some (.cells (el t).toArray T (0, 0))
section
variable {w w' : World} {b : Nat} {T : TypeId} {t : Rk}
theorem bA.lt (h : bA w b T t) : b < w.heap.size := lt_of_block h
theorem bA.below (h : bA w b T t) (hb : Below w.heap.size w w') : bA w' b T t := aB hb h h.lt
theorem bA.off {S : Nat -> Prop} (h : bA w b T t) (ho : aE S w w') (hs : ¬ S b) : bA w' b T t := ho.at h hs
theorem bA.free (h : bA w b T t) (j : Nat) : w.frozen? ⟨b, j, none⟩ = false := aG h j
theorem bA.c0 (h : bA w b T t) : w.cell? ⟨b, 0, none⟩ = some (.int .u32 t.div) := by rw [aA h 0]; rfl
theorem bA.c1 (h : bA w b T t) : w.cell? ⟨b, 1, none⟩ = some (.int .u32 t.rest) := by rw [aA h 1]; rfl
theorem bA.c2 (h : bA w b T t) : w.cell? ⟨b, 2, none⟩ = some (.int .u32 t.set) := by rw [aA h 2]; rfl
theorem bA.c3 (h : bA w b T t) : w.cell? ⟨b, 3, none⟩ = some (.int .u64 t.sec) := by rw [aA h 3]; rfl
theorem bA.c4 (h : bA w b T t) : w.cell? ⟨b, 4, none⟩ = some (.int .u64 t.alarm) := by rw [aA h 4]; rfl
theorem bA.c5 (h : bA w b T t) : w.cell? ⟨b, 5, none⟩ = some (.int .u32 (tk t.en)) := by rw [aA h 5]; rfl
theorem bA.c6 (h : bA w b T t) : w.cell? ⟨b, 6, none⟩ = some (.int .u32 (tk t.st)) := by rw [aA h 6]; rfl
theorem bA.set (h : bA w b T t) (j : Nat) (x : Value) {s : Rk} (he : (el t).set j x = el s) : bA (w.setCell ⟨b, j, none⟩ x) b T s := by
 unfold bA; rw [aK h, <- he]; simp
theorem bA.s1 (h : bA w b T t) (x : Int) : bA (w.setCell ⟨b, 1, none⟩ (.int .u32 x)) b T { t with rest := x } := h.set _ _ rfl
theorem bA.s2 (h : bA w b T t) (x : Int) : bA (w.setCell ⟨b, 2, none⟩ (.int .u32 x)) b T { t with set := x } := h.set _ _ rfl
theorem bA.s3 (h : bA w b T t) (x : Int) : bA (w.setCell ⟨b, 3, none⟩ (.int .u64 x)) b T { t with sec := x } := h.set _ _ rfl
theorem bA.s4 (h : bA w b T t) (a l : Int) : bA (w.setCell ⟨b, 4, none⟩ (.int .u64 (dB a l))) b T { t with ah := a, al := l } := h.set _ _ rfl
theorem bA.s5 (h : bA w b T t) (x : Bool) : bA (w.setCell ⟨b, 5, none⟩ (.int .u32 (tk x))) b T { t with en := x } := h.set _ _ rfl
theorem bA.s6 (h : bA w b T t) (x : Bool) : bA (w.setCell ⟨b, 6, none⟩ (.int .u32 (tk x))) b T { t with st := x } := h.set _ _ rfl
theorem bA.other (h : bA w b T t) (k j : Nat) (x : Value) (hne : b ≠ k) : bA (w.setCell ⟨k, j, none⟩ x) b T t := aJ h k j x hne
theorem bA.row {old : Array Value} (h : w.heap[b]? = some (.cells old T (0, 0))) (t : Rk) : bA (w.setRow b (el t).toArray) b T t := cL _ h
theorem bA.elseRow (h : bA w b T t) (g : Nat) (cs : Array Value) (hne : b ≠ g) : bA (w.setRow g cs) b T t := dE g cs h hne
theorem bA.alloc (h : bA w b T t) (o : Obj) : bA (w.alloc o) b T t := (aH w o h.lt).trans h
theorem bA.grown (h : bA w b T t) : ∀ w', (∃ p : Regrown, w' = grow (redrawn w p.d) p.os) -> bA w' b T t := bZ h
end
section
variable {ops : Array Oper} {rest : List Oper} {o : Oper} {a : Act} {w : World} {Q : Exit -> Act -> World -> Prop}
theorem oA (hgd : o.guard = none) (x : Operand) (ho : o.op = .load 243 x) {b : Nat} {T : TypeId} (hx : a.eval x = .pointer (some ⟨b, 0, none⟩)) {t : Rk} (hg : bA w b T t)
 (h : wpList prog ops Q rest (a.put o.dst (.agg (el t).toArray)) w) : wpList prog ops Q (o :: rest) a w :=
 bJ hgd _ x ho b 0 hx _ (el t) hg underlying243 rfl iE (bB _) h
theorem kT (hgd : o.guard = none) (x y : Operand) (ho : o.op = .store 243 x y) {b : Nat} {T : TypeId} (hx : a.eval x = .pointer (some ⟨b, 0, none⟩)) {t : Rk} (hy : a.eval y = .agg (el t).toArray) {t' : Rk} (hg : bA w b T t')
 (h : wpList prog ops Q rest (a.put o.dst undef) (w.setRow b (el t).toArray)) : wpList prog ops Q (o :: rest) a w := by
 refine aT hgd _ x y ho b 0 hx (el t) hy hg iE (by simp [el, e7]) (yJ _ _ _ _ _ _ _) ?_
 rw [bR _ _ (by simp [el, e7])]
 exact h
theorem aAE {C : World -> Prop} {K : Act -> Prop} (x : Operand) (ho : o.op = .load 243 x) {b : Nat} {T : TypeId} (hx : a.eval x = .pointer (some ⟨b, 0, none⟩)) {t : Rk} (hg : ∀ w, C w -> bA w b T t)
 (h : K (a.put o.dst (.agg (el t).toArray))) : o.quiet prog a C K :=
 dY _ x ho b 0 hx _ (el t) (fun w hw => hg w hw) underlying243 rfl iE (bB _) h
end
theorem aBc {fn : Func} {p : Tmp} (h : fn.results = #[.cell p 243]) (tmps : Array Value) (w : World) {b : Nat} {T : TypeId} {t : Rk} (hp : tmps[p]? = some (.pointer (some ⟨b, 0, none⟩))) (hg : bA w b T t) :
 (results fn tmps).run prog w = .ok (.agg (el t).toArray) w :=
 bH h tmps w b 0 _ (el t) hp hg underlying243 rfl iE (bB _)
def oE (T : TypeId) (t : Rk) : Obj := .cells (el t).toArray T (0, 0)
theorem sS (T : TypeId) (t : Rk) : Obj.cells (el t).toArray T (0, 0) = oE T t := rfl
theorem xL (T : TypeId) : Obj.cells #[.int .u32 0, .int .u32 0, .int .u32 0, .int .u64 0, .int .u64 0, .int .u32 0, .int .u32 0] T (0, 0) = oE T uT := rfl
theorem mT (w : World) (T : TypeId) (t : Rk) : bA (w.alloc (oE T t)) w.heap.size T t := aD w _
theorem lW (w : World) (p : Nat) (cs : Array Value) : aE (· = p) w (w.setRow p cs) := ⟨rfl, rfl, rfl, by simp, fun k _ hs => setRow_other w p k cs hs⟩
theorem wY (t : Rk) (w : World) (h : t.ok) : Calls prog 228 #[.agg (el t).toArray] w fun e w' => e = .returned (.bool false) /\ Below w.heap.size w w' := by
 have X := mT w dQ t
 have hb := aO (aV w) (oE dQ t)
 have q : (t.div == 0) = false := by have := h.d0; simp; omega
 clear h
 go_enter func228, ntmps228
 go_upto_region 1 with (fail)
 rw [sS]
 generalize w.alloc (oE dQ t) = W at *
 have x0 := X.c0
 have x1 := X.c1
 have x2 := X.c2
 have x3 := X.c3
 have x4 := X.c4
 have x5 := X.c5
 have x6 := X.c6
 clear X
 exact bX
theorem rG (t : Rk) (p : Nat) (w : World) (a : bA w p dH t) : Calls prog 167 #[.pointer (some ⟨p, 0, none⟩)] w fun e w' => e = .returned (.agg (el t).toArray) /\ Below w.heap.size w w' := by
 have X := mT w dQ uT
 have A := a.alloc (oE dQ uT)
 have hb := aO (aV w) (oE dQ uT)
 go_enter func167, ntmps167
 go_upto_region 1 with (fail)
 rw [xL]
 clear a
 generalize w.alloc (oE dQ uT) = W at *
 have Z := bA.row X t
 have hB := aR hb (el t).toArray (g := w.heap.size) (Nat.le_refl _)
 go_wp2_with (first | (refine oA rfl (.tmp 8) rfl rfl A ?_) | (refine kT rfl (.tmp 2) (.tmp 9) rfl rfl (t := t) rfl X ?_))
 exact bodyPost_ret (aBc rfl _ _ rfl Z) rfl ⟨rfl, hB⟩
theorem aBA (t : Rk) (w : World) (h : t.ok) : Calls prog 209 #[.agg (el t).toArray] w fun e w' => e = .returned (.bool t.met) /\ Below w.heap.size w w' := by
 have X := mT w dQ t
 have hb := aO (aV w) (oE dQ t)
 have x3 := X.c3
 have x4 := X.c4
 have x5 := X.c5
 obtain ⟨m, hm⟩ : ∃ m, t.met = m := ⟨_, rfl⟩
 rw [hm]
 unfold Rk.met at hm
 obtain ⟨A, hA⟩ : ∃ A, t.alarm = A := ⟨_, rfl⟩
 rw [hA] at hm x4
 clear hA h
 cases hen : t.en
 all_goals
  rw [hen] at hm x5
  unfold tk at x5
  have hM := Hd hm
  clear hen hm
  go_enter func209, ntmps209
  go_upto_region 1 with (fail)
  rw [sS]
  generalize w.alloc (oE dQ t) = W at *
  go_wp2_with fail
  go_ret
  exact ⟨bI (by rw [<- hM.out]; simp), hb⟩
theorem aCA (d : Int) (w : World) (d0 : 1 <= d) (d1 : d < 4294967296) : Calls prog 105 #[.int .u32 d] w fun e w' => e = .returned (.tuple #[.pointer (some ⟨w.heap.size, 0, none⟩), .int .i64 0]) /\ w' = w.alloc (oE dH (rk0 d)) := by
 have q : (d == 0) = false := by simp; omega
 have hz : Obj.cells #[.int .u32 d, .int .u32 0, .int .u32 0, .int .u64 0, .int .u64 0, .int .u32 0, .int .u32 0] dH (0, 0) = oE dH (rk0 d) := rfl
 rw [<- hz]
 clear hz
 go_enter func105, ntmps105
 exact cW
theorem aBD (d r s sec a en st : Int) (w : World) : (Instr.field 243 (.agg #[.int .u32 d, .int .u32 r, .int .u32 s, .int .u64 sec, .int .u64 a, .int .u32 en, .int .u32 st]) 6).run prog w = .ok (.int .u32 st) w := by
 have ha : (isAgg 27).run prog w = .ok false w := by kernel_rfl
 simp [Instr.field, Sem.run_bind, run_underlying underlying243, part, ha, asAgg]
theorem aA8 (t : Rk) (p : Nat) (w : World) (a : bA w p dH t) : Calls prog 97 #[.pointer (some ⟨p, 0, none⟩)] w fun e w' => e = .returned (.bool t.st) /\ Below w.heap.size w w' := by
 go_enter func97, ntmps97
 go_wp2_with fail
 refine (rG t p _ a).mono ?_
 rintro e w1 ⟨rfl, hb⟩
 have hf := aBD t.div t.rest t.set t.sec t.alarm (tk t.en) (tk t.st)
 unfold el e7
 go_wp2_with fail
 go_ret
 exact ⟨bI (aAP _), hb⟩
theorem qG {t : Rk} (h : t.ok) {n : Int} (n0 : 0 <= n) : t.adv n = if t.div <= t.rest + n % t.div then { t with sec := dS t.sec (n / t.div + 1), rest := t.rest + n % t.div - t.div } else { t with sec := dS t.sec (n / t.div), rest := t.rest + n % t.div } := by
 obtain ⟨e1, e2⟩ := oQ t.rest n t.div h.d0 h.r0 h.r1
 have q := Int.ediv_nonneg n0 (show 0 <= t.div by have := h.d0; omega)
 unfold Rk.adv
 rw [e1, e2]
 split
 . simp only [Rk.mk.injEq, and_true, true_and]
   rw [lD]
 . simp only [Rk.mk.injEq, and_true, true_and]
   rw [lD, Int.add_zero]
theorem xB {a : Int} (h0 : 0 <= a) (h1 : a < 4294967296) : lo a = a := by unfold lo; omega
theorem sJ (a b : Int) (h0 : 0 <= b) (h1 : b < 4294967296) : lo (dB a b) = b := by unfold lo dB; omega
theorem rO (a b : Int) (h0 : 0 <= b) (h1 : b < 4294967296) : hi (dB a b) = a := by unfold hi dB; omega
theorem tL {n d r : Int} (n0 : 0 <= n) (n1 : n < 18446744073709551616) (d0 : 1 <= d) (r0 : 0 <= r) (r1 : r < d) (h : d <= r + n % d) : n / d + 1 < 18446744073709551616 := by
 have m1 := Int.emod_lt_of_pos n (show 0 < d by omega)
 have d2 : 2 <= d := by omega
 have q0 := Int.ediv_nonneg n0 (show 0 <= d by omega)
 have e := Int.mul_ediv_add_emod n d
 have m0 := Int.emod_nonneg n (show d ≠ 0 by omega)
 have p : 2 * (n / d) <= d * (n / d) := Int.mul_le_mul_of_nonneg_right d2 q0
 omega
theorem jF {P : Prop} (h : P := by
 have Z := bA.row Y2 R
 have hB := aR B2 (el R).toArray (g := w.heap.size + 1) (by omega)
 go_wp2_with (first | (refine oA rfl (.tmp 2) rfl rfl X2 ?_) | (refine kT rfl (.tmp 4) (.tmp 37) rfl rfl (t := R) rfl Y2 ?_))
 exact bodyPost_ret (aBc rfl _ _ rfl Z) rfl ⟨rfl, hB⟩
 ) : P := h
theorem yL (t : Rk) (n : Int) (w : World) (h : t.ok) (n0 : 0 <= n) (n1 : n < 18446744073709551616) :
 Calls prog 301 #[.agg (el t).toArray, .int .u64 n] w fun e w' => e = .returned (.agg (el (t.adv n)).toArray) /\ Below w.heap.size w w' := by
 have hB := aO (aO (aV w) (oE dQ t)) (oE dQ uT)
 have X : bA ((w.alloc (oE dQ t)).alloc (oE dQ uT)) w.heap.size dQ t := fZ w _ _
 have Y : bA ((w.alloc (oE dQ t)).alloc (oE dQ uT)) (w.heap.size + 1) dQ uT := eV w _ _
 have hw := qG h n0
 have hro := tL n0 n1 h.d0 h.r0 h.r1
 obtain ⟨R, hR⟩ : ∃ R, t.adv n = R := ⟨_, rfl⟩
 rw [hR] at hw ⊢
 clear hR
 obtain ⟨d0, d1, r0, r1, w0, w1, s0, s1, _, _, _, _⟩ := h
 have q0 := Int.ediv_nonneg n0 (show 0 <= t.div by omega)
 have q1 : n / t.div < 18446744073709551616 := Int.lt_of_le_of_lt (Int.ediv_le_self _ n0) n1
 have m0 := Int.emod_nonneg n (show t.div ≠ 0 by omega)
 have m1 := Int.emod_lt_of_pos n (show 0 < t.div by omega)
 have hq : n.tdiv t.div = n / t.div := Int.tdiv_eq_ediv_of_nonneg n0
 have hm : n.tmod t.div = n % t.div := Int.tmod_eq_emod_of_nonneg n0
 obtain ⟨q, hq2⟩ : ∃ q, n / t.div = q := ⟨_, rfl⟩
 obtain ⟨m, hm2⟩ : ∃ m, n % t.div = m := ⟨_, rfl⟩
 rw [hq2] at hq q0 q1 hw hro
 rw [hm2] at hm m0 m1 hw hro
 have hne : (t.div == 0) = false := by simp; omega
 clear hq2 hm2
 have HW := Hd hw
 have HQ := Hd hq
 have HR := Hd hm
 have HO := Hd hro
 clear hw hq hm hro
 go_enter func301, ntmps301
 go_upto_region 1 with (fail)
 rw [xL, sS]
 generalize (w.alloc (oE dQ t)).alloc (oE dQ uT) = W at *
 have x0 := X.c0
 have x1 := X.c1
 go_upto_region 2 with (fail)
 have hl := X.lt
 have hg := bY
 have hwr : IntKind.u64.wrap (t.rest + m) = t.rest + m := IntWalk.u64_in _ (by omega)
 have HR2 := HR.out
 have HQ2 := HQ.out
 refine wp_region_quiet_below (by kernel_rfl) (by kernel_rfl) ?_
 repeat (go_big_quiet_step (fail))
 refine wpQuiet_nil ?_
 intro _ hw'
 obtain ⟨⟨dq2, osq2⟩, hw''⟩ := hw'
 subst hw''
 clear HR2 HQ2 hwr x0 x1 hg hl
 have hb2 := below_regrown W dq2 osq2
 have X1 := X.below hb2
 have Y1 := Y.below hb2
 have B1 := tr hB hb2
 clear X Y hB hb2
 generalize grow (redrawn W dq2) osq2 = W1 at *
 have x3 := X1.c3
 have f3 := X1.free 3
 have f1 := X1.free 1
 have x1 := X1.c1
 by_cases hge : t.div <= t.rest + m
 . have hw := HW.out
   rw [if_pos hge] at hw
   have hro := HO.out hge
   have hlt2 : ¬ t.rest + m - t.div < 0 := by omega
   have HA := Hd (fun w => Add t.sec (q + 1) w s0 s1 (by omega) (by omega))
   have HL := Hd (fun w => by have := Lo (t.rest + m - t.div) w (by omega) (by omega); rw [xB (by omega) (by omega)] at this; exact this)
   obtain ⟨u, hu⟩ : ∃ u, dS t.sec (q + 1) = u := ⟨_, rfl⟩
   rw [hu] at hw HA
   clear hu HW HO
   have X2 := (X1.s3 u).s1 (t.rest + m - t.div)
   rw [<- hw] at X2
   have Y2 := (Y1.other w.heap.size 3 (.int .u64 u) (by omega)).other w.heap.size 1 (.int .u32 (t.rest + m - t.div)) (by omega)
   have B2 := (B1.setCell (p := ⟨w.heap.size, 3, none⟩) (by simp) (.int .u64 u)).setCell (p := ⟨w.heap.size, 1, none⟩) (by simp) (.int .u32 (t.rest + m - t.div))
   clear X1 Y1 B1 hw
   go_upto_region 6 with (first | (go_at_call 34; refine (HA.out _).mono ?_; rintro e w' ⟨rfl, rfl⟩) | (go_at_call 163; refine (HL.out _).mono ?_; rintro e w' ⟨rfl, rfl⟩))
   clear x3 f3 f1 x1 HA HL
   generalize (W1.setCell ⟨w.heap.size, 3, none⟩ (.int .u64 u)).setCell ⟨w.heap.size, 1, none⟩ (.int .u32 (t.rest + m - t.div)) = W2 at *
   exact jF
 . have hw := HW.out
   rw [if_neg hge] at hw
   have HA := Hd (fun w => Add t.sec (q) w s0 s1 (by omega) (by omega))
   have HL := Hd (fun w => by have := Lo (t.rest + m) w (by omega) (by omega); rw [xB (by omega) (by omega)] at this; exact this)
   obtain ⟨u, hu⟩ : ∃ u, dS t.sec (q) = u := ⟨_, rfl⟩
   rw [hu] at hw HA
   clear hu HW HO
   have X2 := (X1.s3 u).s1 (t.rest + m)
   rw [<- hw] at X2
   have Y2 := (Y1.other w.heap.size 3 (.int .u64 u) (by omega)).other w.heap.size 1 (.int .u32 (t.rest + m)) (by omega)
   have B2 := (B1.setCell (p := ⟨w.heap.size, 3, none⟩) (by simp) (.int .u64 u)).setCell (p := ⟨w.heap.size, 1, none⟩) (by simp) (.int .u32 (t.rest + m))
   clear X1 Y1 B1 hw
   go_upto_region 6 with (first | (go_at_call 34; refine (HA.out _).mono ?_; rintro e w' ⟨rfl, rfl⟩) | (go_at_call 163; refine (HL.out _).mono ?_; rintro e w' ⟨rfl, rfl⟩))
   clear x3 f3 f1 x1 HA HL
   generalize (W1.setCell ⟨w.heap.size, 3, none⟩ (.int .u64 u)).setCell ⟨w.heap.size, 1, none⟩ (.int .u32 (t.rest + m)) = W2 at *
   exact jF
theorem yK (t : Rk) (o : Int) (p : Nat) (w : World) (h : t.ok) (a : bA w p dH t) (o0 : 0 <= o) (o1 : o < 4294967296) :
 Calls prog 207 #[.pointer (some ⟨p, 0, none⟩), .int .u32 o] w fun e w' => e = .returned (.int .i64 (dF o)) /\ Below w.heap.size w w' := by
 have HN := Hd (fun w => wY t w h)
 cases h4 : (o % 4 != 0)
 . by_cases h36 : 36 <= o
   . have HE := Hd (show dF o = 10 by unfold dF; rw [if_neg (by simpa using h4), if_pos h36])
     go_enter func207, ntmps207
     go_wp2_with fail
     refine (rG t p _ a).mono ?_
     exact cX
   . have HE := Hd (show dF o = 0 by unfold dF; rw [if_neg (by simpa using h4), if_neg h36])
     go_enter func207, ntmps207
     go_wp2_with fail
     refine (rG t p _ a).mono ?_
     exact cX
 . have HE := Hd (show dF o = 11 by unfold dF; rw [if_pos (by simpa using h4)])
   go_enter func207, ntmps207
   go_wp2_with fail
   refine (rG t p _ a).mono ?_
   exact cX
theorem jG {P : Prop} (h : P := by
 clear he h a b0 b1
 go_enter func208, ntmps208
 go_wp2_with (go_at_call 229; refine (HC.out _).mono ?_; rintro e w' ⟨rfl, rfl⟩)
 go_ret
 exact ⟨rfl, rfl⟩
 ) : P := h
theorem jH {P : Prop} (h : P := by
 clear he h a b0 b1
 go_enter func208, ntmps208
 go_wp2_with (go_at_call 163; refine (HC.out _).mono ?_; rintro e w' ⟨rfl, rfl⟩)
 go_ret
 exact ⟨rfl, rfl⟩
 ) : P := h
theorem yO (t : Rk) (o : Int) (p : Nat) (w : World) (h : t.ok) (a : bA w p dH t) (o0 : 0 <= o) (he : dF o = 0) :
 Calls prog 208 #[.pointer (some ⟨p, 0, none⟩), .int .u32 o] w fun e w' => e = .returned (.int .u32 (t.val o)) /\ w = w' := by
 obtain ⟨V, hV⟩ : ∃ V, t.val o = V := ⟨_, rfl⟩
 rw [hV]
 obtain ⟨b0, b1⟩ := Rk.alarm_bounds h
 rcases nJ o0 he with rfl | rfl | rfl | rfl | rfl | rfl | rfl | rfl | rfl
 . replace hV : lo t.sec = V := hV
   subst hV
   have HC := Hd (fun w => Lo t.sec w h.s0 h.s1)
   have x := a.c3
   exact jH
 . replace hV : hi t.sec = V := hV
   subst hV
   have HC := Hd (fun w => Hi t.sec w h.s0 h.s1)
   have x := a.c3
   exact jG
 . replace hV : t.set = V := hV
   subst hV
   have x := a.c2
   clear he h a b0 b1
   go_enter func208, ntmps208
   exact aL
 . replace hV : 0 = V := hV
   subst hV
   clear he h a b0 b1
   go_enter func208, ntmps208
   exact aL
 . replace hV : t.al = V := hV
   subst hV
   have HC := Hd (fun w => by have := Lo t.alarm w b0 b1; unfold Rk.alarm at this; rw [sJ _ _ h.l0 h.l1] at this; exact this)
   have x := a.c4
   exact jH
 . replace hV : t.ah = V := hV
   subst hV
   have HC := Hd (fun w => by have := Hi t.alarm w b0 b1; unfold Rk.alarm at this; rw [rO _ _ h.l0 h.l1] at this; exact this)
   have x := a.c4
   exact jG
 . replace hV : tk t.en = V := hV
   subst hV
   have x := a.c5
   clear he h a b0 b1
   go_enter func208, ntmps208
   exact aL
 . replace hV : tk t.st = V := hV
   subst hV
   have x := a.c6
   clear he h a b0 b1
   go_enter func208, ntmps208
   exact aL
 . replace hV : t.div = V := hV
   subst hV
   have x := a.c0
   clear he h a b0 b1
   go_enter func208, ntmps208
   exact aL
theorem aA9 (t : Rk) (o : Int) (p : Nat) (w : World) (h : t.ok) (a : bA w p dH t) (o0 : 0 <= o) (o1 : o < 4294967296) :
 Calls prog 150 #[.pointer (some ⟨p, 0, none⟩), .int .u32 o] w fun e w' => e = .returned (.tuple #[.int .u32 (t.valE o), .int .i64 (dF o)]) /\ Below w.heap.size w w' := by
 have HC := Hd (fun w a => yK t o p w h a o0 o1)
 have HV := Hd (fun w a he => yO t o p w h a o0 he)
 have HD := Hd (show t.valE o = if dF o = 0 then t.val o else 0 from rfl)
 obtain ⟨V, hV⟩ : ∃ V, t.valE o = V := ⟨_, rfl⟩
 obtain ⟨U, hU⟩ : ∃ U, t.val o = U := ⟨_, rfl⟩
 obtain ⟨E, hE⟩ : ∃ E, dF o = E := ⟨_, rfl⟩
 rw [hV, hU, hE] at HD
 rw [hV, hE]
 rw [hE] at HC HV
 rw [hU] at HV
 clear hV hU hE h
 by_cases he : E = 0
 . subst he
   have hv := HD.out
   rw [if_pos rfl] at hv
   subst hv
   have HV2 := Hd (fun w a => HV.out w a rfl)
   clear HV HD
   go_enter func150, ntmps150
   go_wp2_with fail
   refine (HC.out _ a).mono ?_
   rintro e w1 ⟨rfl, h1⟩
   have A := a.below h1
   go_wp2_with fail
   refine (HV2.out _ A).mono ?_
   rintro e w2 ⟨rfl, rfl⟩
   exact cI
 . have hv := HD.out
   rw [if_neg he] at hv
   subst hv
   have hn : (E == 0) = false := by simpa using he
   have hn2 : (E != 0) = true := by simpa using he
   clear HV HD he
   go_enter func150, ntmps150
   go_wp2_with fail
   refine (HC.out _ a).mono ?_
   rintro e w1 ⟨rfl, h1⟩
   exact cI
theorem yM (t : Rk) (p : Nat) (w : World) (a : bA w p dH t) :
 Calls prog 294 #[.pointer (some ⟨p, 0, none⟩)] w fun e w' => e = .returned (.tuple #[]) /\ bA w' p dH t.zero /\ aE (· = p) w w' := by
 have x0 := a.c0
 have x1 := a.c1
 have x3 := a.c3
 have hl := a.lt
 go_enter func294, ntmps294
 go_upto_region 1 with (fail)
 have hg := bY
 have hf := bT
 refine aF 19 (by kernel_rfl) (by kernel_rfl) ?_
 simp only [List.take_succ_cons, List.take_zero, List.drop_succ_cons, List.drop_zero]
 repeat (go_big_quiet_step (fail))
 refine wpQuiet_nil ?_
 intro _ hw'
 obtain ⟨⟨dq, osq⟩, hw''⟩ := hw'
 subst hw''
 have hb := below_regrown w dq osq
 have A := a.below hb
 have ho := aE.ofBelow (S := (· = p)) hb
 clear x0 x1 x3 hl hg hf a hb
 generalize grow (redrawn w dq) osq = W at *
 go_wp2_with (refine kT rfl (.tmp 22) (.tmp 20) rfl rfl (t := t.zero) rfl A ?_)
 go_end0
 exact ⟨rfl, bA.row A t.zero, ho.trans (lW _ _ _)⟩
theorem rF (t s : Rk) (p x y : Nat) (w : World) (h : t.ok) (hs : s.ok) (a : bA w p dH t)
 (HF : Hid (∀ w1, Below w.heap.size w w1 -> bA w1 p dH t -> Calls prog 300 #[.pointer (some ⟨x, 0, none⟩), .pointer (some ⟨y, 0, none⟩)] w1 fun e w' => e = .returned (.tuple #[]) /\ bA w' p dH s /\ aE (· = p) w1 w')) :
 Calls prog 297 #[.pointer (some ⟨p, 0, none⟩), .func (.func 300) #[] #[.pointer (some ⟨x, 0, none⟩), .pointer (some ⟨y, 0, none⟩)]] w fun e w' => e = .returned (.tuple #[]) /\ bA w' p dH (Rk.behind t s) /\ aE (· = p) w w' := by
 have M1 := Hd (fun w => aBA t w h)
 have M2 := Hd (fun w => aBA s w hs)
 have HB := Hd (show Rk.behind t s = if (s.met && !t.met) = true then { s with st := true } else s from rfl)
 obtain ⟨m1, h1⟩ : ∃ m, t.met = m := ⟨_, rfl⟩
 obtain ⟨m2, h2⟩ : ∃ m, s.met = m := ⟨_, rfl⟩
 obtain ⟨R, hR⟩ : ∃ R, Rk.behind t s = R := ⟨_, rfl⟩
 rw [h1, h2, hR] at HB
 rw [h1] at M1
 rw [h2] at M2
 rw [hR]
 clear h1 h2 hR h hs
 cases m1 <;> cases m2
 all_goals
  go_enter func297, ntmps297
  go_wp2_with (refine oA rfl (.tmp 7) rfl rfl a ?_)
  refine (M1.out _).mono ?_
  rintro e w1 ⟨rfl, hb⟩
  have A := a.below hb
  have ho := aE.ofBelow (S := (· = p)) hb
  go_wp2_with fail
  refine (HF.out _ hb A).mono ?_
  rintro e w2 ⟨rfl, A2, ho2⟩
  have ho3 := ho.trans ho2
  clear ho ho2 A a hb M1
  go_wp2_with (refine oA rfl (.tmp 14) rfl rfl A2 ?_)
  refine (M2.out _).mono ?_
  rintro e w3 ⟨rfl, hb⟩
  have A3 := A2.below hb
  have ho4 := ho3.trans (aE.ofBelow (S := (· = p)) hb)
  clear ho3 A2 hb M2
  have f6 := A3.free 6
  have x6 := A3.c6
  go_wp2_with fail
  go_end0
  have hv := HB.out
  simp at hv
  subst hv
  first | exact ⟨rfl, A3, ho4⟩ | exact ⟨rfl, A3.s6 true, ho4.trans (bE _ _ _ _)⟩
theorem yN (t : Rk) (n : Int) (p x y : Nat) (w : World) (h : t.ok) (a : bA w p dH t) (n0 : 0 <= n) (n1 : n < 18446744073709551616) (hx : w.cell? ⟨x, 0, none⟩ = some (.pointer (some ⟨p, 0, none⟩))) (hy : w.cell? ⟨y, 0, none⟩ = some (.int .u64 n)) (lx : x < w.heap.size) (ly : y < w.heap.size) :
 Calls prog 300 #[.pointer (some ⟨x, 0, none⟩), .pointer (some ⟨y, 0, none⟩)] w fun e w' => e = .returned (.tuple #[]) /\ bA w' p dH (t.adv n) /\ aE (· = p) w w' := by
 have L := Hd (fun w => yL t n w h n0 n1)
 obtain ⟨R, hR⟩ : ∃ R, t.adv n = R := ⟨_, rfl⟩
 rw [hR] at L ⊢
 clear hR h
 have hl := a.lt
 go_enter func300, ntmps300
 have hg := bY
 have hf := bT
 refine aF 9 (by kernel_rfl) (by kernel_rfl) ?_
 simp only [List.take_succ_cons, List.take_zero, List.drop_succ_cons, List.drop_zero]
 repeat (first
  | go_big_quiet_skip
  | (go_big_quiet_want; first
      | (refine aAE (.tmp 5) rfl rfl a.grown ?_; go_simp; go_big_quiet_on)
      | (go_big_quiet_op; first
          | go_big_quiet_on
          | go_big_quiet_call (first | (go_at_call 301; exact Calls.regrown_of (L.out _))))))
 refine wpQuiet_nil ?_
 intro _ hw'
 obtain ⟨⟨dq, osq⟩, hw''⟩ := hw'
 subst hw''
 have hb := below_regrown w dq osq
 have A := a.below hb
 have ho := aE.ofBelow (S := (· = p)) hb
 clear hx hy lx ly hl hg hf a hb
 generalize grow (redrawn w dq) osq = W at *
 go_wp2_with (refine kT rfl (.tmp 10) (.tmp 8) rfl rfl (t := R) rfl A ?_)
 go_end0
 exact ⟨rfl, bA.row A R, ho.trans (lW _ _ _)⟩
theorem aBB (t : Rk) (n : Int) (p : Nat) (w : World) (h : t.ok) (a : bA w p dH t) (n0 : 0 <= n) (n1 : n < 18446744073709551616) :
 Calls prog 296 #[.pointer (some ⟨p, 0, none⟩), .int .u64 n] w fun e w' => e = .returned (.tuple #[]) /\ bA w' p dH (t.tick n) /\ aE (· = p) w w' := by
 have hmf : ∀ (fn : Fn) (first cap : Array Value) (w : World), (Instr.makeFunc fn first cap).run prog w = .ok (.func fn first cap) w := fun _ _ _ _ => rfl
 have hB := aO (aO (aV w) (.cells #[.pointer (some ⟨p, 0, none⟩)] 102 (0, 0))) (.cells #[.int .u64 n] 22 (0, 0))
 have A := a.below hB
 have h0 := fZ w (.cells #[.pointer (some ⟨p, 0, none⟩)] 102 (0, 0)) (.cells #[.int .u64 n] 22 (0, 0))
 have h1 := eV w (.cells #[.pointer (some ⟨p, 0, none⟩)] 102 (0, 0)) (.cells #[.int .u64 n] 22 (0, 0))
 have HN := Hd (fun w => wY t w h)
 have HT := Hd (fun w p x y a hx hy lx ly => yN t n p x y w h a n0 n1 hx hy lx ly)
 have HC := Hd (fun p x y w a HF => rF t (t.adv n) p x y w h (Rk.adv_ok h n0) a HF)
 have HR : Rk.behind t (t.adv n) = t.tick n := rfl
 rw [HR] at HC
 obtain ⟨R, hR⟩ : ∃ R, t.tick n = R := ⟨_, rfl⟩
 obtain ⟨S, hS⟩ : ∃ S, t.adv n = S := ⟨_, rfl⟩
 rw [hR] at HC ⊢
 rw [hS] at HC HT
 clear hR hS HR h a
 go_enter func296, ntmps296
 go_upto_region 1 with (fail)
 generalize (w.alloc (.cells #[.pointer (some ⟨p, 0, none⟩)] 102 (0, 0))).alloc (.cells #[.int .u64 n] 22 (0, 0)) = W at *
 have c0 := aA h0 0
 have c1 := aA h1 0
 simp only [List.getElem?_toArray, List.getElem?_cons_zero] at c0 c1
 go_wp2_with fail
 refine (rG t p _ A).mono ?_
 rintro e w1 ⟨rfl, hb1⟩
 go_wp2_with fail
 refine (HN.out _).mono ?_
 rintro e w2 ⟨rfl, hb2⟩
 have hb := tr hb1 hb2
 have A2 := A.below hb
 have hB2 := tr hB hb
 have k0 := aB hb h0 (gB h0)
 have k1 := aB hb h1 (gB h1)
 clear c0 c1 h0 h1 hB A hb hb1 hb2 HN
 have c0 := aA k0 0
 simp only [List.getElem?_toArray, List.getElem?_cons_zero] at c0
 go_wp2_with fail
 refine (HC.out _ _ _ _ A2 (Hd fun w3 hb3 A3 => ?_)).mono ?_
 . have m0 := aB hb3 k0 (gB k0)
   have m1 := aB hb3 k1 (gB k1)
   have c0 := aA m0 0
   have c1 := aA m1 0
   simp only [List.getElem?_toArray, List.getElem?_cons_zero] at c0 c1
   exact HT.out _ _ _ _ A3 c0 c1 (gB m0) (gB m1)
 . rintro e w3 ⟨rfl, A3, ho⟩
   go_wp2_with fail
   go_end0
   exact ⟨rfl, A3, (aE.ofBelow hB2).trans ho⟩
end Go.Proofs.YtealhichdbimlaaGreat.B
