/- A part of the proof of a law of layer 12: al. -/
import Derived.Test.YtpojmmgokgamgaaGreatZYak
set_option linter.unusedVariables false
set_option linter.unusedSimpArgs false
set_option maxHeartbeats 12800000
set_option maxRecDepth 100000
namespace Go.Proofs.YtpojmmgokgamgaaGreat.B
open Go.Proofs.Tryz
open Go.ChangeShapes Go.WideShapes Go.RowKit Go.Sort
theorem aLc (b : Bool) : (tk b == 1) = b := by cases b <;> rfl
theorem iE : (prog.info? 174).map (·.size) = some 7 := by kernel_rfl
def e7 (d r s : Int) (sec a : Int) (en st : Int) : List Value := [.int .u32 d, .int .u32 r, .int .u32 s, .int .u64 sec, .int .u64 a, .int .u32 en, .int .u32 st]
def el (t : Rk) : List Value := e7 t.div t.rest t.set t.sec t.alarm (tk t.en) (tk t.st)
theorem rA {P : Prop} (h : P := by
 rcases h with rfl | rfl | rfl | rfl | rfl | rfl | rfl <;> rfl
 ) : P := h
theorem aLT (d r s sec a en st : Int) : ∀ x ∈ e7 d r s sec a en st, x.oneCell' = true := by
 intro x h
 simp only [e7, List.mem_cons, List.not_mem_nil, or_false] at h
 exact rA
abbrev dB : TypeId := 176
abbrev gS : TypeId := 174
def cJ (w : World) (b : Nat) (T : TypeId) (t : Rk) : Prop := w.heap[b]? = some (.cells (el t).toArray T (0, 0))
section
variable {w w' : World} {b : Nat} {T : TypeId} {t : Rk}
theorem cJ.lt (h : cJ w b T t) : b < w.heap.size := lt_of_block h
theorem cJ.below (h : cJ w b T t) (hb : Below w.heap.size w w') : cJ w' b T t := aC hb h h.lt
theorem cJ.off {S : Nat -> Prop} (h : cJ w b T t) (ho : aF S w w') (hs : ¬ S b) : cJ w' b T t := ho.at h hs
theorem cJ.free (h : cJ w b T t) (j : Nat) : w.frozen? ⟨b, j, none⟩ = false := aN h j
theorem cJ.c0 (h : cJ w b T t) : w.cell? ⟨b, 0, none⟩ = some (.int .u32 t.div) := by rw [aA h 0]; rfl
theorem cJ.c1 (h : cJ w b T t) : w.cell? ⟨b, 1, none⟩ = some (.int .u32 t.rest) := by rw [aA h 1]; rfl
theorem cJ.c2 (h : cJ w b T t) : w.cell? ⟨b, 2, none⟩ = some (.int .u32 t.set) := by rw [aA h 2]; rfl
theorem cJ.c3 (h : cJ w b T t) : w.cell? ⟨b, 3, none⟩ = some (.int .u64 t.sec) := by rw [aA h 3]; rfl
theorem cJ.c4 (h : cJ w b T t) : w.cell? ⟨b, 4, none⟩ = some (.int .u64 t.alarm) := by rw [aA h 4]; rfl
theorem cJ.c5 (h : cJ w b T t) : w.cell? ⟨b, 5, none⟩ = some (.int .u32 (tk t.en)) := by rw [aA h 5]; rfl
theorem cJ.c6 (h : cJ w b T t) : w.cell? ⟨b, 6, none⟩ = some (.int .u32 (tk t.st)) := by rw [aA h 6]; rfl
theorem cJ.set (h : cJ w b T t) (j : Nat) (x : Value) {s : Rk} (he : (el t).set j x = el s) : cJ (w.setCell ⟨b, j, none⟩ x) b T s := by
 unfold cJ; rw [aS h, <- he]; simp
theorem cJ.s1 (h : cJ w b T t) (x : Int) : cJ (w.setCell ⟨b, 1, none⟩ (.int .u32 x)) b T { t with rest := x } := h.set _ _ rfl
theorem cJ.s2 (h : cJ w b T t) (x : Int) : cJ (w.setCell ⟨b, 2, none⟩ (.int .u32 x)) b T { t with set := x } := h.set _ _ rfl
theorem cJ.s3 (h : cJ w b T t) (x : Int) : cJ (w.setCell ⟨b, 3, none⟩ (.int .u64 x)) b T { t with sec := x } := h.set _ _ rfl
theorem cJ.s4 (h : cJ w b T t) (a l : Int) : cJ (w.setCell ⟨b, 4, none⟩ (.int .u64 (dD a l))) b T { t with ah := a, al := l } := h.set _ _ rfl
theorem cJ.s5 (h : cJ w b T t) (x : Bool) : cJ (w.setCell ⟨b, 5, none⟩ (.int .u32 (tk x))) b T { t with en := x } := h.set _ _ rfl
theorem cJ.s6 (h : cJ w b T t) (x : Bool) : cJ (w.setCell ⟨b, 6, none⟩ (.int .u32 (tk x))) b T { t with st := x } := h.set _ _ rfl
theorem cJ.other (h : cJ w b T t) (k j : Nat) (x : Value) (hne : b ≠ k) : cJ (w.setCell ⟨k, j, none⟩ x) b T t := aW h k j x hne
theorem cJ.row {old : Array Value} (h : w.heap[b]? = some (.cells old T (0, 0))) (t : Rk) : cJ (w.setRow b (el t).toArray) b T t := aT _ h
theorem cJ.alloc (h : cJ w b T t) (o : Obj) : cJ (w.alloc o) b T t := (aX w o h.lt).trans h
theorem cJ.grown (h : cJ w b T t) : ∀ w', (∃ p : Regrown, w' = grow (redrawn w p.d) p.os) -> cJ w' b T t := cV h
end
section
variable {ops : Array Oper} {rest : List Oper} {o : Oper} {a : Act} {w : World} {Q : Exit -> Act -> World -> Prop}
theorem vC (hgd : o.guard = none) (x : Operand) (ho : o.op = .load 174 x) {b : Nat} {T : TypeId} (hx : a.eval x = .pointer (some ⟨b, 0, none⟩)) {t : Rk} (hg : cJ w b T t)
 (h : wpList prog ops Q rest (a.put o.dst (.agg (el t).toArray)) w) : wpList prog ops Q (o :: rest) a w :=
 aL hgd _ x ho b 0 hx _ (el t) hg underlying174 rfl iE (aM _) h
theorem aKN (x : Operand) (ho : o.op = .load 174 x) (hw : Region.wanted o (yielded ops a.tmps) = true) {b : Nat} {T : TypeId} (hx : a.eval x = .pointer (some ⟨b, 0, none⟩)) {t : Rk} (hg : cJ w b T t)
 (h : wpList prog ops Q rest (a.put o.dst (.agg (el t).toArray)) w) : wpList prog ops Q (o :: rest) a w :=
 cK _ x ho hw b 0 hx _ (el t) hg underlying174 rfl iE (aM _) h
theorem qP (hgd : o.guard = none) (x y : Operand) (ho : o.op = .store 174 x y) {b : Nat} {T : TypeId} (hx : a.eval x = .pointer (some ⟨b, 0, none⟩)) {t : Rk} (hy : a.eval y = .agg (el t).toArray) {t' : Rk} (hg : cJ w b T t')
 (h : wpList prog ops Q rest (a.put o.dst undef) (w.setRow b (el t).toArray)) : wpList prog ops Q (o :: rest) a w := by
 refine aH hgd _ x y ho b 0 hx (el t) hy hg iE (by simp [el, e7]) (aLT _ _ _ _ _ _ _) ?_
 rw [aV _ _ (by simp [el, e7])]
 exact h
theorem aMG {C : World -> Prop} {K : Act -> Prop} (x : Operand) (ho : o.op = .load 174 x) {b : Nat} {T : TypeId} (hx : a.eval x = .pointer (some ⟨b, 0, none⟩)) {t : Rk} (hg : ∀ w, C w -> cJ w b T t)
 (h : K (a.put o.dst (.agg (el t).toArray))) : o.quiet prog a C K :=
 bD _ x ho b 0 hx _ (el t) (fun w hw => hg w hw) underlying174 rfl iE (aM _) h
end
theorem aM7 {fn : Func} {p : Tmp} (h : fn.results = #[.cell p 174]) (tmps : Array Value) (w : World) {b : Nat} {T : TypeId} {t : Rk} (hp : tmps[p]? = some (.pointer (some ⟨b, 0, none⟩))) (hg : cJ w b T t) :
 (results fn tmps).run prog w = .ok (.agg (el t).toArray) w :=
 aU h tmps w b 0 _ (el t) hp hg underlying174 rfl iE (aM _)
def oE (T : TypeId) (t : Rk) : Obj := .cells (el t).toArray T (0, 0)
theorem aCq (T : TypeId) (t : Rk) : Obj.cells (el t).toArray T (0, 0) = oE T t := rfl
theorem xP (T : TypeId) : Obj.cells #[.int .u32 0, .int .u32 0, .int .u32 0, .int .u64 0, .int .u64 0, .int .u32 0, .int .u32 0] T (0, 0) = oE T lK := rfl
theorem nZ (w : World) (T : TypeId) (t : Rk) : cJ (w.alloc (oE T t)) w.heap.size T t := aD w _
theorem aAS (w : World) (p : Nat) (cs : Array Value) : aF (· = p) w (w.setRow p cs) := ⟨rfl, rfl, rfl, by simp, fun k _ hs => setRow_other w p k cs hs⟩
theorem aJy (t : Rk) (w : World) (h : t.ok) : Calls prog 218 #[.agg (el t).toArray] w fun e w' => e = .returned (.bool false) /\ Below w.heap.size w w' := by
 have X := nZ w gS t
 have hb := aE (aI w) (oE gS t)
 have q : (t.div == 0) = false := by have := h.d0; simp; omega
 clear h
 go_enter func218, ntmps218
 go_upto_region 1 with (fail)
 rw [aCq]
 generalize w.alloc (oE gS t) = W at *
 have x0 := X.c0
 have x1 := X.c1
 have x2 := X.c2
 have x3 := X.c3
 have x4 := X.c4
 have x5 := X.c5
 have x6 := X.c6
 clear X
 exact bO
theorem sK (t : Rk) (p : Nat) (w : World) (a : cJ w p dB t) : Calls prog 184 #[.pointer (some ⟨p, 0, none⟩)] w fun e w' => e = .returned (.agg (el t).toArray) /\ Below w.heap.size w w' := by
 have X := nZ w gS lK
 have A := a.alloc (oE gS lK)
 have hb := aE (aI w) (oE gS lK)
 go_enter func184, ntmps184
 go_upto_region 1 with (fail)
 rw [xP]
 clear a
 generalize w.alloc (oE gS lK) = W at *
 have Z := cJ.row X t
 have hB := aB hb (el t).toArray (g := w.heap.size) (Nat.le_refl _)
 go_wp2_with (first | (refine vC rfl (.tmp 8) rfl rfl A ?_) | (refine qP rfl (.tmp 2) (.tmp 9) rfl rfl (t := t) rfl X ?_))
 exact bodyPost_ret (aM7 rfl _ _ rfl Z) rfl ⟨rfl, hB⟩
theorem aJD (t : Rk) (w : World) (h : t.ok) : Calls prog 203 #[.agg (el t).toArray] w fun e w' => e = .returned (.bool t.met) /\ Below w.heap.size w w' := by
 have X := nZ w gS t
 have hb := aE (aI w) (oE gS t)
 have x3 := X.c3
 have x4 := X.c4
 have x5 := X.c5
 obtain ⟨m, hm⟩ : ∃ m, t.met = m := ⟨_, rfl⟩
 rw [hm]
 unfold Rk.met at hm
 obtain ⟨A, hA⟩ : ∃ A, t.alarm = A := ⟨_, rfl⟩
 rw [hA] at hm x4
 clear hA h
 cases hen : t.en
 all_goals
  rw [hen] at hm x5
  unfold tk at x5
  have hM := Hd hm
  clear hen hm
  go_enter func203, ntmps203
  go_upto_region 1 with (fail)
  rw [aCq]
  generalize w.alloc (oE gS t) = W at *
  go_wp2_with fail
  go_ret
  exact ⟨bX (by rw [<- hM.out]; simp), hb⟩
theorem aOb (d : Int) (w : World) (d0 : 1 <= d) (d1 : d < 4294967296) : Calls prog 48 #[.int .u32 d] w fun e w' => e = .returned (.tuple #[.pointer (some ⟨w.heap.size, 0, none⟩), .int .i64 0]) /\ w' = w.alloc (oE dB (rk0 d)) := by
 have q : (d == 0) = false := by simp; omega
 have hz : Obj.cells #[.int .u32 d, .int .u32 0, .int .u32 0, .int .u64 0, .int .u64 0, .int .u32 0, .int .u32 0] dB (0, 0) = oE dB (rk0 d) := rfl
 rw [<- hz]
 clear hz
 go_enter func48, ntmps48
 exact iL
theorem aFU (w : World) : Calls prog 48 #[.int .u32 0] w fun e w' => e = .returned (.tuple #[.pointer none, .int .i64 5]) /\ w = w' := by
 go_enter func48, ntmps48
 exact iL
theorem mW {P : Prop} (h : P := by
 simp [Instr.field, Sem.run_bind, run_underlying underlying174, part, ha, asAgg]
 ) : P := h
theorem aO7 (d r s sec a en st : Int) (w : World) : (Instr.field 174 (.agg #[.int .u32 d, .int .u32 r, .int .u32 s, .int .u64 sec, .int .u64 a, .int .u32 en, .int .u32 st]) 3).run prog w = .ok (.int .u64 sec) w := by
 have ha : (isAgg 37).run prog w = .ok false w := by kernel_rfl
 exact mW
theorem aOK (d r s sec a en st : Int) (w : World) : (Instr.field 174 (.agg #[.int .u32 d, .int .u32 r, .int .u32 s, .int .u64 sec, .int .u64 a, .int .u32 en, .int .u32 st]) 1).run prog w = .ok (.int .u32 r) w := by
 have ha : (isAgg 22).run prog w = .ok false w := by kernel_rfl
 exact mW
theorem aM0 (d r s sec a en st : Int) (w : World) : (Instr.field 174 (.agg #[.int .u32 d, .int .u32 r, .int .u32 s, .int .u64 sec, .int .u64 a, .int .u32 en, .int .u32 st]) 4).run prog w = .ok (.int .u64 a) w := by
 have ha : (isAgg 37).run prog w = .ok false w := by kernel_rfl
 exact mW
theorem aNa (d r s sec a en st : Int) (w : World) : (Instr.field 174 (.agg #[.int .u32 d, .int .u32 r, .int .u32 s, .int .u64 sec, .int .u64 a, .int .u32 en, .int .u32 st]) 6).run prog w = .ok (.int .u32 st) w := by
 have ha : (isAgg 22).run prog w = .ok false w := by kernel_rfl
 exact mW
theorem aEe (t : Rk) (p : Nat) (w : World) (a : cJ w p dB t) : Calls prog 154 #[.pointer (some ⟨p, 0, none⟩)] w fun e w' => e = .returned (.int .u64 t.sec) /\ Below w.heap.size w w' := by
 go_enter func154, ntmps154
 go_wp2_with fail
 refine (sK t p _ a).mono ?_
 rintro e w1 ⟨rfl, hb⟩
 have hf := aO7 t.div t.rest t.set t.sec t.alarm (tk t.en) (tk t.st)
 unfold el e7
 exact bO
theorem aNI (t : Rk) (p : Nat) (w : World) (a : cJ w p dB t) : Calls prog 155 #[.pointer (some ⟨p, 0, none⟩)] w fun e w' => e = .returned (.int .u32 t.rest) /\ Below w.heap.size w w' := by
 go_enter func155, ntmps155
 go_wp2_with fail
 refine (sK t p _ a).mono ?_
 rintro e w1 ⟨rfl, hb⟩
 have hf := aOK t.div t.rest t.set t.sec t.alarm (tk t.en) (tk t.st)
 unfold el e7
 exact bO
theorem aLZ (t : Rk) (p : Nat) (w : World) (a : cJ w p dB t) : Calls prog 156 #[.pointer (some ⟨p, 0, none⟩)] w fun e w' => e = .returned (.int .u64 t.alarm) /\ Below w.heap.size w w' := by
 go_enter func156, ntmps156
 go_wp2_with fail
 refine (sK t p _ a).mono ?_
 rintro e w1 ⟨rfl, hb⟩
 have hf := aM0 t.div t.rest t.set t.sec t.alarm (tk t.en) (tk t.st)
 unfold el e7
 exact bO
theorem aJ4 (t : Rk) (p : Nat) (w : World) (a : cJ w p dB t) : Calls prog 119 #[.pointer (some ⟨p, 0, none⟩)] w fun e w' => e = .returned (.bool t.st) /\ Below w.heap.size w w' := by
 go_enter func119, ntmps119
 go_wp2_with fail
 refine (sK t p _ a).mono ?_
 rintro e w1 ⟨rfl, hb⟩
 have hf := aNa t.div t.rest t.set t.sec t.alarm (tk t.en) (tk t.st)
 unfold el e7
 go_wp2_with fail
 go_ret
 exact ⟨bX (aLc _), hb⟩
theorem aNY (t : Rk) (p : Nat) (w : World) (h : t.ok) (a : cJ w p dB t) : Calls prog 158 #[.pointer (some ⟨p, 0, none⟩)] w fun e w' => e = .returned (.bool t.met) /\ Below w.heap.size w w' := by
 have M := Hd (fun w => aJD t w h)
 go_enter func158, ntmps158
 go_wp2_with fail
 refine (sK t p _ a).mono ?_
 rintro e w1 ⟨rfl, hb⟩
 go_wp2_with fail
 refine (M.out _).mono ?_
 rintro e w2 ⟨rfl, hb2⟩
 go_wp2_with fail
 go_ret
 exact ⟨rfl, tr hb hb2⟩
theorem aJ8 (t : Rk) (p : Nat) (w : World) (a : cJ w p dB t) : Calls prog 133 #[.pointer (some ⟨p, 0, none⟩)] w fun e w' => e = .returned (.pointer (some ⟨w.heap.size, 0, none⟩)) /\ cJ w' w.heap.size dB t /\ Below w.heap.size w w' := by
 have X := nZ w dB t
 have hb := aE (aI w) (oE dB t)
 have ha := a.lt
 have x0 := a.c0
 have x1 := a.c1
 have x2 := a.c2
 have x3 := a.c3
 have x4 := a.c4
 have x5 := a.c5
 have x6 := a.c6
 clear a
 go_enter func133, ntmps133
 go_wp2_with fail
 go_ret
 exact ⟨rfl, X, hb⟩
theorem aFd {t : Rk} (h : t.ok) {n : Int} (n0 : 0 <= n) : t.adv n = if t.div <= t.rest + n % t.div then { t with sec := eC t.sec (n / t.div + 1), rest := t.rest + n % t.div - t.div } else { t with sec := eC t.sec (n / t.div), rest := t.rest + n % t.div } := by
 obtain ⟨e1, e2⟩ := vZ t.rest n t.div h.d0 h.r0 h.r1
 have q := Int.ediv_nonneg n0 (show 0 <= t.div by have := h.d0; omega)
 unfold Rk.adv
 rw [e1, e2]
 split
 . simp only [Rk.mk.injEq, and_true, true_and]
   rw [mE]
 . simp only [Rk.mk.injEq, and_true, true_and]
   rw [mE, Int.add_zero]
theorem aJr {a : Int} (h0 : 0 <= a) (h1 : a < 4294967296) : lo a = a := by unfold lo; omega
theorem zS (a b : Int) (h0 : 0 <= b) (h1 : b < 4294967296) : lo (dD a b) = b := by unfold lo dD; omega
theorem aAc (a b : Int) (h0 : 0 <= b) (h1 : b < 4294967296) : hi (dD a b) = a := by unfold hi dD; omega
theorem aF3 {n d r : Int} (n0 : 0 <= n) (n1 : n < 18446744073709551616) (d0 : 1 <= d) (r0 : 0 <= r) (r1 : r < d) (h : d <= r + n % d) : n / d + 1 < 18446744073709551616 := by
 have m1 := Int.emod_lt_of_pos n (show 0 < d by omega)
 have d2 : 2 <= d := by omega
 have q0 := Int.ediv_nonneg n0 (show 0 <= d by omega)
 have e := Int.mul_ediv_add_emod n d
 have m0 := Int.emod_nonneg n (show d ≠ 0 by omega)
 have p : 2 * (n / d) <= d * (n / d) := Int.mul_le_mul_of_nonneg_right d2 q0
 omega
theorem vL {P : Prop} (h : P := by
 have Z := cJ.row Y2 R
 have hB := aB B2 (el R).toArray (g := w.heap.size + 1) (by omega)
 go_wp2_with (first | (refine vC rfl (.tmp 2) rfl rfl X2 ?_) | (refine qP rfl (.tmp 4) (.tmp 37) rfl rfl (t := R) rfl Y2 ?_))
 exact bodyPost_ret (aM7 rfl _ _ rfl Z) rfl ⟨rfl, hB⟩
 ) : P := h
theorem aMX (t : Rk) (n : Int) (w : World) (h : t.ok) (n0 : 0 <= n) (n1 : n < 18446744073709551616) :
 Calls prog 289 #[.agg (el t).toArray, .int .u64 n] w fun e w' => e = .returned (.agg (el (t.adv n)).toArray) /\ Below w.heap.size w w' := by
 have hB := aE (aE (aI w) (oE gS t)) (oE gS lK)
 have X : cJ ((w.alloc (oE gS t)).alloc (oE gS lK)) w.heap.size gS t := bG w _ _
 have Y : cJ ((w.alloc (oE gS t)).alloc (oE gS lK)) (w.heap.size + 1) gS lK := bL w _ _
 have hw := aFd h n0
 have hro := aF3 n0 n1 h.d0 h.r0 h.r1
 obtain ⟨R, hR⟩ : ∃ R, t.adv n = R := ⟨_, rfl⟩
 rw [hR] at hw ⊢
 clear hR
 obtain ⟨d0, d1, r0, r1, w0, w1, s0, s1, _, _, _, _⟩ := h
 have q0 := Int.ediv_nonneg n0 (show 0 <= t.div by omega)
 have q1 : n / t.div < 18446744073709551616 := Int.lt_of_le_of_lt (Int.ediv_le_self _ n0) n1
 have m0 := Int.emod_nonneg n (show t.div ≠ 0 by omega)
 have m1 := Int.emod_lt_of_pos n (show 0 < t.div by omega)
 have hq : n.tdiv t.div = n / t.div := Int.tdiv_eq_ediv_of_nonneg n0
 have hm : n.tmod t.div = n % t.div := Int.tmod_eq_emod_of_nonneg n0
 obtain ⟨q, hq2⟩ : ∃ q, n / t.div = q := ⟨_, rfl⟩
 obtain ⟨m, hm2⟩ : ∃ m, n % t.div = m := ⟨_, rfl⟩
 rw [hq2] at hq q0 q1 hw hro
 rw [hm2] at hm m0 m1 hw hro
 have hne : (t.div == 0) = false := by simp; omega
 clear hq2 hm2
 have HW := Hd hw
 have HQ := Hd hq
 have HR := Hd hm
 have HO := Hd hro
 clear hw hq hm hro
 go_enter func289, ntmps289
 go_upto_region 1 with (fail)
 rw [xP, aCq]
 generalize (w.alloc (oE gS t)).alloc (oE gS lK) = W at *
 have x0 := X.c0
 have x1 := X.c1
 go_upto_region 2 with (fail)
 have hl := X.lt
 have hg := bI
 have hwr : IntKind.u64.wrap (t.rest + m) = t.rest + m := IntWalk.u64_in _ (by omega)
 have HR2 := HR.out
 have HQ2 := HQ.out
 refine wp_region_quiet_below (by kernel_rfl) (by kernel_rfl) ?_
 repeat (go_big_quiet_step (fail))
 refine wpQuiet_nil ?_
 intro _ hw'
 obtain ⟨⟨dq2, osq2⟩, hw''⟩ := hw'
 subst hw''
 clear HR2 HQ2 hwr x0 x1 hg hl
 have hb2 := below_regrown W dq2 osq2
 have X1 := X.below hb2
 have Y1 := Y.below hb2
 have B1 := tr hB hb2
 clear X Y hB hb2
 generalize grow (redrawn W dq2) osq2 = W1 at *
 have x3 := X1.c3
 have f3 := X1.free 3
 have f1 := X1.free 1
 have x1 := X1.c1
 by_cases hge : t.div <= t.rest + m
 . have hw := HW.out
   rw [if_pos hge] at hw
   have hro := HO.out hge
   have hlt2 : ¬ t.rest + m - t.div < 0 := by omega
   have HA := Hd (fun w => Add t.sec (q + 1) w s0 s1 (by omega) (by omega))
   have HL := Hd (fun w => by have := Lo (t.rest + m - t.div) w (by omega) (by omega); rw [aJr (by omega) (by omega)] at this; exact this)
   obtain ⟨u, hu⟩ : ∃ u, eC t.sec (q + 1) = u := ⟨_, rfl⟩
   rw [hu] at hw HA
   clear hu HW HO
   have X2 := (X1.s3 u).s1 (t.rest + m - t.div)
   rw [<- hw] at X2
   have Y2 := (Y1.other w.heap.size 3 (.int .u64 u) (by omega)).other w.heap.size 1 (.int .u32 (t.rest + m - t.div)) (by omega)
   have B2 := (B1.setCell (p := ⟨w.heap.size, 3, none⟩) (by simp) (.int .u64 u)).setCell (p := ⟨w.heap.size, 1, none⟩) (by simp) (.int .u32 (t.rest + m - t.div))
   clear X1 Y1 B1 hw
   go_upto_region 6 with (first | (go_at_call 261; refine (HA.out _).mono ?_; rintro e w' ⟨rfl, rfl⟩) | (go_at_call 180; refine (HL.out _).mono ?_; rintro e w' ⟨rfl, rfl⟩))
   clear x3 f3 f1 x1 HA HL
   generalize (W1.setCell ⟨w.heap.size, 3, none⟩ (.int .u64 u)).setCell ⟨w.heap.size, 1, none⟩ (.int .u32 (t.rest + m - t.div)) = W2 at *
   exact vL
 . have hw := HW.out
   rw [if_neg hge] at hw
   have HA := Hd (fun w => Add t.sec (q) w s0 s1 (by omega) (by omega))
   have HL := Hd (fun w => by have := Lo (t.rest + m) w (by omega) (by omega); rw [aJr (by omega) (by omega)] at this; exact this)
   obtain ⟨u, hu⟩ : ∃ u, eC t.sec (q) = u := ⟨_, rfl⟩
   rw [hu] at hw HA
   clear hu HW HO
   have X2 := (X1.s3 u).s1 (t.rest + m)
   rw [<- hw] at X2
   have Y2 := (Y1.other w.heap.size 3 (.int .u64 u) (by omega)).other w.heap.size 1 (.int .u32 (t.rest + m)) (by omega)
   have B2 := (B1.setCell (p := ⟨w.heap.size, 3, none⟩) (by simp) (.int .u64 u)).setCell (p := ⟨w.heap.size, 1, none⟩) (by simp) (.int .u32 (t.rest + m))
   clear X1 Y1 B1 hw
   go_upto_region 6 with (first | (go_at_call 261; refine (HA.out _).mono ?_; rintro e w' ⟨rfl, rfl⟩) | (go_at_call 180; refine (HL.out _).mono ?_; rintro e w' ⟨rfl, rfl⟩))
   clear x3 f3 f1 x1 HA HL
   generalize (W1.setCell ⟨w.heap.size, 3, none⟩ (.int .u64 u)).setCell ⟨w.heap.size, 1, none⟩ (.int .u32 (t.rest + m)) = W2 at *
   exact vL
theorem aLg (t : Rk) (w : World) (h : t.ok) (hen : t.en = true) (hm : t.met = false) :
 Calls prog 204 #[.agg (el t).toArray] w fun e w' => e = .returned (.int .u64 t.left) /\ Below w.heap.size w w' := by
 have hB := aE (aI w) (oE gS t)
 have X := nZ w gS t
 have hl := aC7 hen hm
 have ha : t.sec < t.alarm := by unfold Rk.met at hm; rw [hen] at hm; simpa using hm
 obtain ⟨a0, a1⟩ := Rk.alarm_bounds h
 obtain ⟨L, hL⟩ : ∃ L, t.left = L := ⟨_, rfl⟩
 rw [hL] at hl ⊢
 clear hL hen hm
 have x0 := X.c0
 have x1 := X.c1
 have x3 := X.c3
 have x4 := X.c4
 obtain ⟨A, hA⟩ : ∃ A, t.alarm = A := ⟨_, rfl⟩
 rw [hA] at hl a0 a1 ha x4
 clear hA X
 have HE := Hd hl
 obtain ⟨d0, d1, r0, r1, _, _, s0, s1, _, _, _, _⟩ := h
 have hne : (t.div == 0) = false := by simp; omega
 clear hl
 go_enter func204, ntmps204
 go_upto_region 1 with (fail)
 rw [aCq]
 generalize w.alloc (oE gS t) = W at *
 go_upto_region 4 with (fail)
 have hx := wS (A - t.sec - 1) t.div (t.div - t.rest) d0
 by_cases hov : rS < (A - t.sec - 1) * t.div + (t.div - t.rest)
 . have h1 := hx.2 hov
   unfold rS at h1
   have HE2 := Hd (HE.out.trans (if_pos hov))
   clear hx hov HE
   go_wp2_with fail
   go_ret
   exact ⟨bH HE2.out.symm, hB⟩
 . have h1 : ¬ (18446744073709551615 - (t.div - t.rest)) / t.div < A - t.sec - 1 := fun e => hov (hx.1 e)
   have p0 : 0 <= (A - t.sec - 1) * t.div := Int.mul_nonneg (by omega) (by omega)
   have p1 : t.div - t.rest + (A - t.sec - 1) * t.div < 18446744073709551616 := by unfold rS at hov; omega
   have p2 : (A - t.sec - 1) * t.div < 18446744073709551616 := by omega
   have HE2 := Hd ((HE.out.trans (if_neg hov)).trans (Int.add_comm _ _))
   clear hx hov HE
   go_wp2_with fail
   go_ret
   exact ⟨bH HE2.out.symm, hB⟩
theorem aEY {t : Rk} (h : t.en = false \/ t.met = true) : t.left = rS := by
 unfold Rk.left
 rw [if_neg (fun e => by rcases h with h | h <;> simp [h] at e)]
theorem aNm (t : Rk) (p : Nat) (w : World) (h : t.ok) (a : cJ w p dB t) :
 Calls prog 160 #[.pointer (some ⟨p, 0, none⟩)] w fun e w' => e = .returned (.int .u64 t.left) /\ Below w.heap.size w w' := by
 have M := Hd (fun w => aJD t w h)
 have S := Hd (fun w hen hm => aLg t w h hen hm)
 have HO := Hd (fun h => aEY (t := t) h)
 obtain ⟨L, hL⟩ : ∃ L, t.left = L := ⟨_, rfl⟩
 rw [hL] at S HO ⊢
 clear hL h
 have hen : ∀ X : World -> Prop, (∃ en, t.en = en) := fun _ => ⟨_, rfl⟩
 obtain ⟨en, hen⟩ := hen fun _ => True
 obtain ⟨m, hm⟩ : ∃ m, t.met = m := ⟨_, rfl⟩
 rw [hm] at M HO S
 rw [hen] at HO S
 have HEN := Hd hen
 clear hen hm
 cases en
 . have hv := HO.out (Or.inl rfl)
   subst hv
   clear HO S M
   go_enter func160, ntmps160
   go_wp2_with fail
   refine (sK t p _ a).mono ?_
   rintro e w1 ⟨rfl, hb⟩
   have X := nZ w1 gS lK
   have B1 := aE hb (oE gS lK)
   have Y := cJ.row X t
   have B2 := aB B1 (el t).toArray (g := w1.heap.size) (by have := hb.size; omega)
   go_upto_region 2 with (first | (refine qP rfl (.tmp 3) (.tmp 5) rfl rfl (t := t) rfl (by rw [xP]; exact X) ?_))
   rw [xP]
   clear a X hb B1
   generalize (w1.alloc (oE gS lK)).setRow w1.heap.size (el t).toArray = W at *
   have x5 := Y.c5
   rw [HEN.out] at x5
   unfold tk at x5
   clear HEN
   go_wp2_with fail
   go_ret
   exact ⟨rfl, B2⟩
 . go_enter func160, ntmps160
   go_wp2_with fail
   refine (sK t p _ a).mono ?_
   rintro e w1 ⟨rfl, hb⟩
   have X := nZ w1 gS lK
   have B1 := aE hb (oE gS lK)
   have Y := cJ.row X t
   have B2 := aB B1 (el t).toArray (g := w1.heap.size) (by have := hb.size; omega)
   go_upto_region 2 with (first | (refine qP rfl (.tmp 3) (.tmp 5) rfl rfl (t := t) rfl (by rw [xP]; exact X) ?_))
   rw [xP]
   clear a X hb B1
   generalize (w1.alloc (oE gS lK)).setRow w1.heap.size (el t).toArray = W at *
   have x5 := Y.c5
   rw [HEN.out] at x5
   unfold tk at x5
   clear HEN
   go_wp2_with (first | (refine aKN (.tmp 3) rfl rfl rfl Y ?_) | (refine vC rfl (.tmp 3) rfl rfl Y ?_))
   refine (M.out _).mono ?_
   rintro e w2 ⟨rfl, hb⟩
   have Y2 := Y.below hb
   have B3 := tr B2 hb
   clear x5 Y B2 hb M
   cases m
   . have S2 := Hd (fun w => S.out w (by simp) (by simp))
     clear S HO
     go_wp2_with (refine vC rfl (.tmp 3) rfl rfl Y2 ?_)
     refine (S2.out _).mono ?_
     rintro e w3 ⟨rfl, hb⟩
     have B4 := tr B3 hb
     go_wp2_with fail
     go_ret
     exact ⟨rfl, B4⟩
   . have hv := HO.out (Or.inr rfl)
     subst hv
     clear HO S
     go_wp2_with fail
     go_ret
     exact ⟨rfl, B3⟩
theorem aBd (t : Rk) (o : Int) (p : Nat) (w : World) (h : t.ok) (a : cJ w p dB t) (o0 : 0 <= o) (o1 : o < 4294967296) :
 Calls prog 201 #[.pointer (some ⟨p, 0, none⟩), .int .u32 o] w fun e w' => e = .returned (.int .i64 (bA o)) /\ Below w.heap.size w w' := by
 have HN := Hd (fun w => aJy t w h)
 cases h4 : (o % 4 != 0)
 . by_cases h36 : 36 <= o
   . have HE := Hd (show bA o = 10 by unfold bA; rw [if_neg (by simpa using h4), if_pos h36])
     go_enter func201, ntmps201
     go_wp2_with fail
     refine (sK t p _ a).mono ?_
     exact jQ
   . have HE := Hd (show bA o = 0 by unfold bA; rw [if_neg (by simpa using h4), if_neg h36])
     go_enter func201, ntmps201
     go_wp2_with fail
     refine (sK t p _ a).mono ?_
     exact jQ
 . have HE := Hd (show bA o = 11 by unfold bA; rw [if_pos (by simpa using h4)])
   go_enter func201, ntmps201
   go_wp2_with fail
   refine (sK t p _ a).mono ?_
   exact jQ
theorem wE {P : Prop} (h : P := by
 clear he h a b0 b1
 go_enter func202, ntmps202
 go_wp2_with (go_at_call 219; refine (HC.out _).mono ?_; rintro e w' ⟨rfl, rfl⟩)
 go_ret
 exact ⟨rfl, rfl⟩
 ) : P := h
theorem vA {P : Prop} (h : P := by
 clear he h a b0 b1
 go_enter func202, ntmps202
 go_wp2_with (go_at_call 180; refine (HC.out _).mono ?_; rintro e w' ⟨rfl, rfl⟩)
 go_ret
 exact ⟨rfl, rfl⟩
 ) : P := h
theorem aKK (t : Rk) (o : Int) (p : Nat) (w : World) (h : t.ok) (a : cJ w p dB t) (o0 : 0 <= o) (he : bA o = 0) :
 Calls prog 202 #[.pointer (some ⟨p, 0, none⟩), .int .u32 o] w fun e w' => e = .returned (.int .u32 (t.val o)) /\ w = w' := by
 obtain ⟨V, hV⟩ : ∃ V, t.val o = V := ⟨_, rfl⟩
 rw [hV]
 obtain ⟨b0, b1⟩ := Rk.alarm_bounds h
 rcases lE o0 he with rfl | rfl | rfl | rfl | rfl | rfl | rfl | rfl | rfl
 . replace hV : lo t.sec = V := hV
   subst hV
   have HC := Hd (fun w => Lo t.sec w h.s0 h.s1)
   have x := a.c3
   exact vA
 . replace hV : hi t.sec = V := hV
   subst hV
   have HC := Hd (fun w => Hi t.sec w h.s0 h.s1)
   have x := a.c3
   exact wE
 . replace hV : t.set = V := hV
   subst hV
   have x := a.c2
   clear he h a b0 b1
   go_enter func202, ntmps202
   exact aR
 . replace hV : 0 = V := hV
   subst hV
   clear he h a b0 b1
   go_enter func202, ntmps202
   exact aR
 . replace hV : t.al = V := hV
   subst hV
   have HC := Hd (fun w => by have := Lo t.alarm w b0 b1; unfold Rk.alarm at this; rw [zS _ _ h.l0 h.l1] at this; exact this)
   have x := a.c4
   exact vA
 . replace hV : t.ah = V := hV
   subst hV
   have HC := Hd (fun w => by have := Hi t.alarm w b0 b1; unfold Rk.alarm at this; rw [aAc _ _ h.l0 h.l1] at this; exact this)
   have x := a.c4
   exact wE
 . replace hV : tk t.en = V := hV
   subst hV
   have x := a.c5
   clear he h a b0 b1
   go_enter func202, ntmps202
   exact aR
 . replace hV : tk t.st = V := hV
   subst hV
   have x := a.c6
   clear he h a b0 b1
   go_enter func202, ntmps202
   exact aR
 . replace hV : t.div = V := hV
   subst hV
   have x := a.c0
   clear he h a b0 b1
   go_enter func202, ntmps202
   exact aR
theorem aJQ (t : Rk) (o : Int) (p : Nat) (w : World) (h : t.ok) (a : cJ w p dB t) (o0 : 0 <= o) (o1 : o < 4294967296) :
 Calls prog 153 #[.pointer (some ⟨p, 0, none⟩), .int .u32 o] w fun e w' => e = .returned (.tuple #[.int .u32 (t.valE o), .int .i64 (bA o)]) /\ Below w.heap.size w w' := by
 have HC := Hd (fun w a => aBd t o p w h a o0 o1)
 have HV := Hd (fun w a he => aKK t o p w h a o0 he)
 have HD := Hd (show t.valE o = if bA o = 0 then t.val o else 0 from rfl)
 obtain ⟨V, hV⟩ : ∃ V, t.valE o = V := ⟨_, rfl⟩
 obtain ⟨U, hU⟩ : ∃ U, t.val o = U := ⟨_, rfl⟩
 obtain ⟨E, hE⟩ : ∃ E, bA o = E := ⟨_, rfl⟩
 rw [hV, hU, hE] at HD
 rw [hV, hE]
 rw [hE] at HC HV
 rw [hU] at HV
 clear hV hU hE h
 by_cases he : E = 0
 . subst he
   have hv := HD.out
   rw [if_pos rfl] at hv
   subst hv
   have HV2 := Hd (fun w a => HV.out w a rfl)
   clear HV HD
   go_enter func153, ntmps153
   go_wp2_with fail
   refine (HC.out _ a).mono ?_
   rintro e w1 ⟨rfl, h1⟩
   have A := a.below h1
   go_wp2_with fail
   refine (HV2.out _ A).mono ?_
   rintro e w2 ⟨rfl, rfl⟩
   exact iJ
 . have hv := HD.out
   rw [if_neg he] at hv
   subst hv
   have hn : (E == 0) = false := by simpa using he
   have hn2 : (E != 0) = true := by simpa using he
   clear HV HD he
   go_enter func153, ntmps153
   go_wp2_with fail
   refine (HC.out _ a).mono ?_
   rintro e w1 ⟨rfl, h1⟩
   exact iJ
theorem aMN (t : Rk) (p : Nat) (w : World) (a : cJ w p dB t) :
 Calls prog 282 #[.pointer (some ⟨p, 0, none⟩)] w fun e w' => e = .returned (.tuple #[]) /\ cJ w' p dB t.zero /\ aF (· = p) w w' := by
 have x0 := a.c0
 have x1 := a.c1
 have x3 := a.c3
 have hl := a.lt
 go_enter func282, ntmps282
 go_upto_region 1 with (fail)
 have hg := bI
 have hf := cP
 refine aJ 19 (by kernel_rfl) (by kernel_rfl) ?_
 simp only [List.take_succ_cons, List.take_zero, List.drop_succ_cons, List.drop_zero]
 repeat (go_big_quiet_step (fail))
 refine wpQuiet_nil ?_
 intro _ hw'
 obtain ⟨⟨dq, osq⟩, hw''⟩ := hw'
 subst hw''
 have hb := below_regrown w dq osq
 have A := a.below hb
 have ho := aF.ofBelow (S := (· = p)) hb
 clear x0 x1 x3 hl hg hf a hb
 generalize grow (redrawn w dq) osq = W at *
 go_wp2_with (refine qP rfl (.tmp 22) (.tmp 20) rfl rfl (t := t.zero) rfl A ?_)
 go_end0
 exact ⟨rfl, cJ.row A t.zero, ho.trans (aAS _ _ _)⟩
end Go.Proofs.YtpojmmgokgamgaaGreat.B
