/- Several texts in one: Layer 10: an Rtc's block of seven cells; now, none, met, New, Seconds, Rest, Alarm, Met, Line, Left, Copy and nil ones. .. -/
import Derived.Test.YtpojmmgokgamgaaGreatZVab
import Derived.Test.YtpojmmgokgamgaaGreatZVai
import Derived.Deep.Cut
import Derived.Laws.StructEq
set_option linter.unusedVariables false
set_option linter.unusedSimpArgs false
set_option maxRecDepth 100000
namespace Go.Proofs.YtpojmmgokgamgaaGreat.B
open Go.ChangeShapes Go.WideShapes Go.RowKit Go.Sort
theorem tk_eq1 (b : Bool) : (tk b == 1) = b := by cases b <;> rfl
theorem iE : (Tryz.prog.info? 174).map (·.size) = some 7 := by kernel_rfl
def e7 (d r s : Int) (sec a : Int) (en st : Int) : List Value := [.int .u32 d, .int .u32 r, .int .u32 s, .int .u64 sec, .int .u64 a, .int .u32 en, .int .u32 st]
def el (t : Rk) : List Value := e7 t.div t.rest t.set t.sec t.alarm (tk t.en) (tk t.st)
theorem e7_one (d r s sec a en st : Int) : ∀ x ∈ e7 d r s sec a en st, x.oneCell' = true := by
 intro x h
 simp only [e7, List.mem_cons, List.not_mem_nil, or_false] at h
 rcases h with rfl | rfl | rfl | rfl | rfl | rfl | rfl <;> rfl
abbrev tRtc : TypeId := 176
abbrev tRst : TypeId := 174
def EAt (w : World) (b : Nat) (T : TypeId) (t : Rk) : Prop := w.heap[b]? = some (.cells (el t).toArray T (0, 0))
section
variable {w w' : World} {b : Nat} {T : TypeId} {t : Rk}
theorem EAt.lt (h : EAt w b T t) : b < w.heap.size := lt_of_block h
theorem EAt.below (h : EAt w b T t) (hb : Below w.heap.size w w') : EAt w' b T t := blk_below hb h h.lt
theorem EAt.off {S : Nat -> Prop} (h : EAt w b T t) (ho : Off S w w') (hs : ¬ S b) : EAt w' b T t := ho.at h hs
theorem EAt.free (h : EAt w b T t) (j : Nat) : w.frozen? ⟨b, j, none⟩ = false := blk_free h j
theorem EAt.c0 (h : EAt w b T t) : w.cell? ⟨b, 0, none⟩ = some (.int .u32 t.div) := by rw [blk_cell h 0]; rfl
theorem EAt.c1 (h : EAt w b T t) : w.cell? ⟨b, 1, none⟩ = some (.int .u32 t.rest) := by rw [blk_cell h 1]; rfl
theorem EAt.c2 (h : EAt w b T t) : w.cell? ⟨b, 2, none⟩ = some (.int .u32 t.set) := by rw [blk_cell h 2]; rfl
theorem EAt.c3 (h : EAt w b T t) : w.cell? ⟨b, 3, none⟩ = some (.int .u64 t.sec) := by rw [blk_cell h 3]; rfl
theorem EAt.c4 (h : EAt w b T t) : w.cell? ⟨b, 4, none⟩ = some (.int .u64 t.alarm) := by rw [blk_cell h 4]; rfl
theorem EAt.c5 (h : EAt w b T t) : w.cell? ⟨b, 5, none⟩ = some (.int .u32 (tk t.en)) := by rw [blk_cell h 5]; rfl
theorem EAt.c6 (h : EAt w b T t) : w.cell? ⟨b, 6, none⟩ = some (.int .u32 (tk t.st)) := by rw [blk_cell h 6]; rfl
theorem EAt.set (h : EAt w b T t) (j : Nat) (x : Value) {s : Rk} (he : (el t).set j x = el s) : EAt (w.setCell ⟨b, j, none⟩ x) b T s := by
 unfold EAt; rw [blk_set h, <- he]; simp
theorem EAt.s1 (h : EAt w b T t) (x : Int) : EAt (w.setCell ⟨b, 1, none⟩ (.int .u32 x)) b T { t with rest := x } := h.set _ _ rfl
theorem EAt.s2 (h : EAt w b T t) (x : Int) : EAt (w.setCell ⟨b, 2, none⟩ (.int .u32 x)) b T { t with set := x } := h.set _ _ rfl
theorem EAt.s3 (h : EAt w b T t) (x : Int) : EAt (w.setCell ⟨b, 3, none⟩ (.int .u64 x)) b T { t with sec := x } := h.set _ _ rfl
theorem EAt.s4 (h : EAt w b T t) (a l : Int) : EAt (w.setCell ⟨b, 4, none⟩ (.int .u64 (join a l))) b T { t with ah := a, al := l } := h.set _ _ rfl
theorem EAt.s5 (h : EAt w b T t) (x : Bool) : EAt (w.setCell ⟨b, 5, none⟩ (.int .u32 (tk x))) b T { t with en := x } := h.set _ _ rfl
theorem EAt.s6 (h : EAt w b T t) (x : Bool) : EAt (w.setCell ⟨b, 6, none⟩ (.int .u32 (tk x))) b T { t with st := x } := h.set _ _ rfl
theorem EAt.other (h : EAt w b T t) (k j : Nat) (x : Value) (hne : b ≠ k) : EAt (w.setCell ⟨k, j, none⟩ x) b T t := blk_else h k j x hne
theorem EAt.row {old : Array Value} (h : w.heap[b]? = some (.cells old T (0, 0))) (t : Rk) : EAt (w.setRow b (el t).toArray) b T t := row_set _ h
theorem EAt.elseRow (h : EAt w b T t) (g : Nat) (cs : Array Value) (hne : b ≠ g) : EAt (w.setRow g cs) b T t := row_else g cs h hne
theorem EAt.alloc (h : EAt w b T t) (o : Obj) : EAt (w.alloc o) b T t := (blk_old w o h.lt).trans h
theorem EAt.grown (h : EAt w b T t) : ∀ w', (∃ p : Regrown, w' = grow (redrawn w p.d) p.os) -> EAt w' b T t := grown_block h
end
section
variable {ops : Array Oper} {rest : List Oper} {o : Oper} {a : Act} {w : World} {Q : Exit -> Act -> World -> Prop}
theorem loadE (hgd : o.guard = none) (x : Operand) (ho : o.op = .load 174 x) {b : Nat} {T : TypeId} (hx : a.eval x = .pointer (some ⟨b, 0, none⟩)) {t : Rk} (hg : EAt w b T t)
 (h : wpList Tryz.prog ops Q rest (a.put o.dst (.agg (el t).toArray)) w) : wpList Tryz.prog ops Q (o :: rest) a w :=
 wpList_load_part hgd _ x ho b 0 hx _ (el t) hg Tryz.underlying174 rfl iE (part_all _) h
theorem storeE (hgd : o.guard = none) (x y : Operand) (ho : o.op = .store 174 x y) {b : Nat} {T : TypeId} (hx : a.eval x = .pointer (some ⟨b, 0, none⟩)) {t : Rk} (hy : a.eval y = .agg (el t).toArray) {t' : Rk} (hg : EAt w b T t')
 (h : wpList Tryz.prog ops Q rest (a.put o.dst undef) (w.setRow b (el t).toArray)) : wpList Tryz.prog ops Q (o :: rest) a w := by
 refine wpList_store_part hgd _ x y ho b 0 hx (el t) hy hg iE (by simp [el, e7]) (e7_one _ _ _ _ _ _ _) ?_
 rw [spliced_all _ _ (by simp [el, e7])]
 exact h
theorem qloadE {C : World -> Prop} {K : Act -> Prop} (x : Operand) (ho : o.op = .load 174 x) {b : Nat} {T : TypeId} (hx : a.eval x = .pointer (some ⟨b, 0, none⟩)) {t : Rk} (hg : ∀ w, C w -> EAt w b T t)
 (h : K (a.put o.dst (.agg (el t).toArray))) : o.quiet Tryz.prog a C K :=
 quiet_load_part _ x ho b 0 hx _ (el t) (fun w hw => hg w hw) Tryz.underlying174 rfl iE (part_all _) h
end
theorem resE {fn : Func} {p : Tmp} (h : fn.results = #[.cell p 174]) (tmps : Array Value) (w : World) {b : Nat} {T : TypeId} {t : Rk} (hp : tmps[p]? = some (.pointer (some ⟨b, 0, none⟩))) (hg : EAt w b T t) :
 (results fn tmps).run Tryz.prog w = .ok (.agg (el t).toArray) w :=
 results_cell_one h tmps w b 0 _ (el t) hp hg Tryz.underlying174 rfl iE (part_all _)
def oE (T : TypeId) (t : Rk) : Obj := .cells (el t).toArray T (0, 0)
theorem oE_eq (T : TypeId) (t : Rk) : Obj.cells (el t).toArray T (0, 0) = oE T t := rfl
theorem zE_eq (T : TypeId) : Obj.cells #[.int .u32 0, .int .u32 0, .int .u32 0, .int .u64 0, .int .u64 0, .int .u32 0, .int .u32 0] T (0, 0) = oE T rkz := rfl
theorem ea_new (w : World) (T : TypeId) (t : Rk) : EAt (w.alloc (oE T t)) w.heap.size T t := blk_new w _
theorem off_rowE (w : World) (p : Nat) (cs : Array Value) : Off (· = p) w (w.setRow p cs) := ⟨rfl, rfl, rfl, by simp, fun k _ hs => setRow_other w p k cs hs⟩
theorem eNone (t : Rk) (w : World) (h : t.ok) : Calls Tryz.prog 218 #[.agg (el t).toArray] w fun e w' => e = .returned (.bool false) /\ Below w.heap.size w w' := by
 have X := ea_new w tRst t
 have hb := trA (tr0 w) (oE tRst t)
 have q : (t.div == 0) = false := by have := h.d0; simp; omega
 clear h
 go_enter Tryz.func218, Tryz.ntmps218
 go_upto_region 1 with (fail)
 rw [oE_eq]
 generalize w.alloc (oE tRst t) = W at *
 have x0 := X.c0
 have x1 := X.c1
 have x2 := X.c2
 have x3 := X.c3
 have x4 := X.c4
 have x5 := X.c5
 have x6 := X.c6
 clear X
 go_wp2_with fail
 go_ret
 exact ⟨rfl, hb⟩
theorem eNow (t : Rk) (p : Nat) (w : World) (a : EAt w p tRtc t) : Calls Tryz.prog 184 #[.pointer (some ⟨p, 0, none⟩)] w fun e w' => e = .returned (.agg (el t).toArray) /\ Below w.heap.size w w' := by
 have X := ea_new w tRst rkz
 have A := a.alloc (oE tRst rkz)
 have hb := trA (tr0 w) (oE tRst rkz)
 go_enter Tryz.func184, Tryz.ntmps184
 go_upto_region 1 with (fail)
 rw [zE_eq]
 clear a
 generalize w.alloc (oE tRst rkz) = W at *
 have Z := EAt.row X t
 have hB := below_setRow hb (el t).toArray (g := w.heap.size) (Nat.le_refl _)
 go_wp2_with (first | (refine loadE rfl (.tmp 8) rfl rfl A ?_) | (refine storeE rfl (.tmp 2) (.tmp 9) rfl rfl (t := t) rfl X ?_))
 exact bodyPost_ret (resE rfl _ _ rfl Z) rfl ⟨rfl, hB⟩
theorem eMet (t : Rk) (w : World) (h : t.ok) : Calls Tryz.prog 203 #[.agg (el t).toArray] w fun e w' => e = .returned (.bool t.met) /\ Below w.heap.size w w' := by
 have X := ea_new w tRst t
 have hb := trA (tr0 w) (oE tRst t)
 have x3 := X.c3
 have x4 := X.c4
 have x5 := X.c5
 obtain ⟨m, hm⟩ : ∃ m, t.met = m := ⟨_, rfl⟩
 rw [hm]
 unfold Rk.met at hm
 obtain ⟨A, hA⟩ : ∃ A, t.alarm = A := ⟨_, rfl⟩
 rw [hA] at hm x4
 clear hA h
 cases hen : t.en
 all_goals
  rw [hen] at hm x5
  unfold tk at x5
  have hM := Hd hm
  clear hen hm
  go_enter Tryz.func203, Tryz.ntmps203
  go_upto_region 1 with (fail)
  rw [oE_eq]
  generalize w.alloc (oE tRst t) = W at *
  go_wp2_with fail
  go_ret
  exact ⟨ret_bool (by rw [<- hM.out]; simp), hb⟩
theorem eNew (d : Int) (w : World) (d0 : 1 <= d) (d1 : d < 4294967296) : Calls Tryz.prog 48 #[.int .u32 d] w fun e w' => e = .returned (.tuple #[.pointer (some ⟨w.heap.size, 0, none⟩), .int .i64 0]) /\ w' = w.alloc (oE tRtc (rk0 d)) := by
 have q : (d == 0) = false := by simp; omega
 have hz : Obj.cells #[.int .u32 d, .int .u32 0, .int .u32 0, .int .u64 0, .int .u64 0, .int .u32 0, .int .u32 0] tRtc (0, 0) = oE tRtc (rk0 d) := rfl
 rw [<- hz]
 clear hz
 go_enter Tryz.func48, Tryz.ntmps48
 go_wp2_with fail
 go_ret2
 exact ⟨rfl, rfl⟩
theorem eNewZero (w : World) : Calls Tryz.prog 48 #[.int .u32 0] w fun e w' => e = .returned (.tuple #[.pointer none, .int .i64 5]) /\ w = w' := by
 go_enter Tryz.func48, Tryz.ntmps48
 go_wp2_with fail
 go_ret2
 exact ⟨rfl, rfl⟩
theorem fldE6 (d r s sec a en st : Int) (w : World) : (Instr.field 174 (.agg #[.int .u32 d, .int .u32 r, .int .u32 s, .int .u64 sec, .int .u64 a, .int .u32 en, .int .u32 st]) 6).run Tryz.prog w = .ok (.int .u32 st) w := by
 have ha : (isAgg 22).run Tryz.prog w = .ok false w := by kernel_rfl
 simp [Instr.field, Sem.run_bind, run_underlying Tryz.underlying174, part, ha, asAgg]
theorem eLine (t : Rk) (p : Nat) (w : World) (a : EAt w p tRtc t) : Calls Tryz.prog 119 #[.pointer (some ⟨p, 0, none⟩)] w fun e w' => e = .returned (.bool t.st) /\ Below w.heap.size w w' := by
 go_enter Tryz.func119, Tryz.ntmps119
 go_wp2_with fail
 refine (eNow t p _ a).mono ?_
 rintro e w1 ⟨rfl, hb⟩
 have hf := fldE6 t.div t.rest t.set t.sec t.alarm (tk t.en) (tk t.st)
 unfold el e7
 go_wp2_with fail
 go_ret
 exact ⟨ret_bool (tk_eq1 _), hb⟩
theorem adv_code {t : Rk} (h : t.ok) {n : Int} (n0 : 0 <= n) : t.adv n = if t.div <= t.rest + n % t.div then { t with sec := addS t.sec (n / t.div + 1), rest := t.rest + n % t.div - t.div } else { t with sec := addS t.sec (n / t.div), rest := t.rest + n % t.div } := by
 obtain ⟨e1, e2⟩ := adv_parts t.rest n t.div h.d0 h.r0 h.r1
 have q := Int.ediv_nonneg n0 (show 0 <= t.div by have := h.d0; omega)
 unfold Rk.adv
 rw [e1, e2]
 split
 . simp only [Rk.mk.injEq, and_true, true_and]
   rw [addS_min]
 . simp only [Rk.mk.injEq, and_true, true_and]
   rw [addS_min, Int.add_zero]
theorem lo_is {a : Int} (h0 : 0 <= a) (h1 : a < 4294967296) : lo a = a := by unfold lo; omega
theorem loT_join (a b : Int) (h0 : 0 <= b) (h1 : b < 4294967296) : lo (join a b) = b := by unfold lo join; omega
theorem hiT_join (a b : Int) (h0 : 0 <= b) (h1 : b < 4294967296) : hi (join a b) = a := by unfold hi join; omega
theorem quo_room {n d r : Int} (n0 : 0 <= n) (n1 : n < 18446744073709551616) (d0 : 1 <= d) (r0 : 0 <= r) (r1 : r < d) (h : d <= r + n % d) : n / d + 1 < 18446744073709551616 := by
 have m1 := Int.emod_lt_of_pos n (show 0 < d by omega)
 have d2 : 2 <= d := by omega
 have q0 := Int.ediv_nonneg n0 (show 0 <= d by omega)
 have e := Int.mul_ediv_add_emod n d
 have m0 := Int.emod_nonneg n (show d ≠ 0 by omega)
 have p : 2 * (n / d) <= d * (n / d) := Int.mul_le_mul_of_nonneg_right d2 q0
 omega
set_option maxHeartbeats 800000 in
theorem eLater (t : Rk) (n : Int) (w : World) (h : t.ok) (n0 : 0 <= n) (n1 : n < 18446744073709551616) :
 Calls Tryz.prog 289 #[.agg (el t).toArray, .int .u64 n] w fun e w' => e = .returned (.agg (el (t.adv n)).toArray) /\ Below w.heap.size w w' := by
 have hB := trA (trA (tr0 w) (oE tRst t)) (oE tRst rkz)
 have X : EAt ((w.alloc (oE tRst t)).alloc (oE tRst rkz)) w.heap.size tRst t := b2_0 w _ _
 have Y : EAt ((w.alloc (oE tRst t)).alloc (oE tRst rkz)) (w.heap.size + 1) tRst rkz := b2_1 w _ _
 have hw := adv_code h n0
 have hro := quo_room n0 n1 h.d0 h.r0 h.r1
 obtain ⟨R, hR⟩ : ∃ R, t.adv n = R := ⟨_, rfl⟩
 rw [hR] at hw ⊢
 clear hR
 obtain ⟨d0, d1, r0, r1, w0, w1, s0, s1, _, _, _, _⟩ := h
 have q0 := Int.ediv_nonneg n0 (show 0 <= t.div by omega)
 have q1 : n / t.div < 18446744073709551616 := Int.lt_of_le_of_lt (Int.ediv_le_self _ n0) n1
 have m0 := Int.emod_nonneg n (show t.div ≠ 0 by omega)
 have m1 := Int.emod_lt_of_pos n (show 0 < t.div by omega)
 have hq : n.tdiv t.div = n / t.div := Int.tdiv_eq_ediv_of_nonneg n0
 have hm : n.tmod t.div = n % t.div := Int.tmod_eq_emod_of_nonneg n0
 obtain ⟨q, hq2⟩ : ∃ q, n / t.div = q := ⟨_, rfl⟩
 obtain ⟨m, hm2⟩ : ∃ m, n % t.div = m := ⟨_, rfl⟩
 rw [hq2] at hq q0 q1 hw hro
 rw [hm2] at hm m0 m1 hw hro
 have hne : (t.div == 0) = false := by simp; omega
 clear hq2 hm2
 have HW := Hd hw
 have HQ := Hd hq
 have HR := Hd hm
 have HO := Hd hro
 clear hw hq hm hro
 go_enter Tryz.func289, Tryz.ntmps289
 go_upto_region 1 with (fail)
 rw [zE_eq, oE_eq]
 generalize (w.alloc (oE tRst t)).alloc (oE tRst rkz) = W at *
 have x0 := X.c0
 have x1 := X.c1
 go_upto_region 2 with (fail)
 have hl := X.lt
 have hg := gcell
 have hwr : IntKind.u64.wrap (t.rest + m) = t.rest + m := IntWalk.u64_in _ (by omega)
 have HR2 := HR.out
 have HQ2 := HQ.out
 refine wp_region_quiet_below (by kernel_rfl) (by kernel_rfl) ?_
 repeat (go_big_quiet_step (fail))
 refine wpQuiet_nil ?_
 intro _ hw'
 obtain ⟨⟨dq2, osq2⟩, hw''⟩ := hw'
 subst hw''
 clear HR2 HQ2 hwr x0 x1 hg hl
 have hb2 := below_regrown W dq2 osq2
 have X1 := X.below hb2
 have Y1 := Y.below hb2
 have B1 := tr hB hb2
 clear X Y hB hb2
 generalize grow (redrawn W dq2) osq2 = W1 at *
 have x3 := X1.c3
 have f3 := X1.free 3
 have f1 := X1.free 1
 have x1 := X1.c1
 by_cases hge : t.div <= t.rest + m
 . have hw := HW.out
   rw [if_pos hge] at hw
   have hro := HO.out hge
   have hlt2 : ¬ t.rest + m - t.div < 0 := by omega
   have HA := Hd (fun w => Add t.sec (q + 1) w s0 s1 (by omega) (by omega))
   have HL := Hd (fun w => by have := Lo (t.rest + m - t.div) w (by omega) (by omega); rw [lo_is (by omega) (by omega)] at this; exact this)
   obtain ⟨u, hu⟩ : ∃ u, addS t.sec (q + 1) = u := ⟨_, rfl⟩
   rw [hu] at hw HA
   clear hu HW HO
   have X2 := (X1.s3 u).s1 (t.rest + m - t.div)
   rw [<- hw] at X2
   have Y2 := (Y1.other w.heap.size 3 (.int .u64 u) (by omega)).other w.heap.size 1 (.int .u32 (t.rest + m - t.div)) (by omega)
   have B2 := (B1.setCell (p := ⟨w.heap.size, 3, none⟩) (by simp) (.int .u64 u)).setCell (p := ⟨w.heap.size, 1, none⟩) (by simp) (.int .u32 (t.rest + m - t.div))
   clear X1 Y1 B1 hw
   go_upto_region 6 with (first | (go_at_call 261; refine (HA.out _).mono ?_; rintro e w' ⟨rfl, rfl⟩) | (go_at_call 180; refine (HL.out _).mono ?_; rintro e w' ⟨rfl, rfl⟩))
   clear x3 f3 f1 x1 HA HL
   generalize (W1.setCell ⟨w.heap.size, 3, none⟩ (.int .u64 u)).setCell ⟨w.heap.size, 1, none⟩ (.int .u32 (t.rest + m - t.div)) = W2 at *
   have Z := EAt.row Y2 R
   have hB := below_setRow B2 (el R).toArray (g := w.heap.size + 1) (by omega)
   go_wp2_with (first | (refine loadE rfl (.tmp 2) rfl rfl X2 ?_) | (refine storeE rfl (.tmp 4) (.tmp 37) rfl rfl (t := R) rfl Y2 ?_))
   exact bodyPost_ret (resE rfl _ _ rfl Z) rfl ⟨rfl, hB⟩
 . have hw := HW.out
   rw [if_neg hge] at hw
   have HA := Hd (fun w => Add t.sec (q) w s0 s1 (by omega) (by omega))
   have HL := Hd (fun w => by have := Lo (t.rest + m) w (by omega) (by omega); rw [lo_is (by omega) (by omega)] at this; exact this)
   obtain ⟨u, hu⟩ : ∃ u, addS t.sec (q) = u := ⟨_, rfl⟩
   rw [hu] at hw HA
   clear hu HW HO
   have X2 := (X1.s3 u).s1 (t.rest + m)
   rw [<- hw] at X2
   have Y2 := (Y1.other w.heap.size 3 (.int .u64 u) (by omega)).other w.heap.size 1 (.int .u32 (t.rest + m)) (by omega)
   have B2 := (B1.setCell (p := ⟨w.heap.size, 3, none⟩) (by simp) (.int .u64 u)).setCell (p := ⟨w.heap.size, 1, none⟩) (by simp) (.int .u32 (t.rest + m))
   clear X1 Y1 B1 hw
   go_upto_region 6 with (first | (go_at_call 261; refine (HA.out _).mono ?_; rintro e w' ⟨rfl, rfl⟩) | (go_at_call 180; refine (HL.out _).mono ?_; rintro e w' ⟨rfl, rfl⟩))
   clear x3 f3 f1 x1 HA HL
   generalize (W1.setCell ⟨w.heap.size, 3, none⟩ (.int .u64 u)).setCell ⟨w.heap.size, 1, none⟩ (.int .u32 (t.rest + m)) = W2 at *
   have Z := EAt.row Y2 R
   have hB := below_setRow B2 (el R).toArray (g := w.heap.size + 1) (by omega)
   go_wp2_with (first | (refine loadE rfl (.tmp 2) rfl rfl X2 ?_) | (refine storeE rfl (.tmp 4) (.tmp 37) rfl rfl (t := R) rfl Y2 ?_))
   exact bodyPost_ret (resE rfl _ _ rfl Z) rfl ⟨rfl, hB⟩
theorem eCheck (t : Rk) (o : Int) (p : Nat) (w : World) (h : t.ok) (a : EAt w p tRtc t) (o0 : 0 <= o) (o1 : o < 4294967296) :
 Calls Tryz.prog 201 #[.pointer (some ⟨p, 0, none⟩), .int .u32 o] w fun e w' => e = .returned (.int .i64 (sErrT o)) /\ Below w.heap.size w w' := by
 have HN := Hd (fun w => eNone t w h)
 cases h4 : (o % 4 != 0)
 . by_cases h36 : 36 <= o
   . have HE := Hd (show sErrT o = 10 by unfold sErrT; rw [if_neg (by simpa using h4), if_pos h36])
     go_enter Tryz.func201, Tryz.ntmps201
     go_wp2_with fail
     refine (eNow t p _ a).mono ?_
     rintro e w1 ⟨rfl, h1⟩
     go_wp2_with fail
     refine (HN.out _).mono ?_
     rintro e w2 ⟨rfl, h2⟩
     go_wp2_with fail
     go_ret
     exact ⟨ret_int HE.out.symm, tr h1 h2⟩
   . have HE := Hd (show sErrT o = 0 by unfold sErrT; rw [if_neg (by simpa using h4), if_neg h36])
     go_enter Tryz.func201, Tryz.ntmps201
     go_wp2_with fail
     refine (eNow t p _ a).mono ?_
     rintro e w1 ⟨rfl, h1⟩
     go_wp2_with fail
     refine (HN.out _).mono ?_
     rintro e w2 ⟨rfl, h2⟩
     go_wp2_with fail
     go_ret
     exact ⟨ret_int HE.out.symm, tr h1 h2⟩
 . have HE := Hd (show sErrT o = 11 by unfold sErrT; rw [if_pos (by simpa using h4)])
   go_enter Tryz.func201, Tryz.ntmps201
   go_wp2_with fail
   refine (eNow t p _ a).mono ?_
   rintro e w1 ⟨rfl, h1⟩
   go_wp2_with fail
   refine (HN.out _).mono ?_
   rintro e w2 ⟨rfl, h2⟩
   go_wp2_with fail
   go_ret
   exact ⟨ret_int HE.out.symm, tr h1 h2⟩
theorem eValue (t : Rk) (o : Int) (p : Nat) (w : World) (h : t.ok) (a : EAt w p tRtc t) (o0 : 0 <= o) (he : sErrT o = 0) :
 Calls Tryz.prog 202 #[.pointer (some ⟨p, 0, none⟩), .int .u32 o] w fun e w' => e = .returned (.int .u32 (t.val o)) /\ w = w' := by
 obtain ⟨V, hV⟩ : ∃ V, t.val o = V := ⟨_, rfl⟩
 rw [hV]
 obtain ⟨b0, b1⟩ := Rk.alarm_bounds h
 rcases sErrT_zero o0 he with rfl | rfl | rfl | rfl | rfl | rfl | rfl | rfl | rfl
 . replace hV : lo t.sec = V := hV
   subst hV
   have HC := Hd (fun w => Lo t.sec w h.s0 h.s1)
   have x := a.c3
   clear he h a b0 b1
   go_enter Tryz.func202, Tryz.ntmps202
   go_wp2_with (go_at_call 180; refine (HC.out _).mono ?_; rintro e w' ⟨rfl, rfl⟩)
   go_ret
   exact ⟨rfl, rfl⟩
 . replace hV : hi t.sec = V := hV
   subst hV
   have HC := Hd (fun w => Hi t.sec w h.s0 h.s1)
   have x := a.c3
   clear he h a b0 b1
   go_enter Tryz.func202, Tryz.ntmps202
   go_wp2_with (go_at_call 219; refine (HC.out _).mono ?_; rintro e w' ⟨rfl, rfl⟩)
   go_ret
   exact ⟨rfl, rfl⟩
 . replace hV : t.set = V := hV
   subst hV
   have x := a.c2
   clear he h a b0 b1
   go_enter Tryz.func202, Tryz.ntmps202
   go_wp2_with fail
   go_ret
   exact ⟨rfl, rfl⟩
 . replace hV : 0 = V := hV
   subst hV
   clear he h a b0 b1
   go_enter Tryz.func202, Tryz.ntmps202
   go_wp2_with fail
   go_ret
   exact ⟨rfl, rfl⟩
 . replace hV : t.al = V := hV
   subst hV
   have HC := Hd (fun w => by have := Lo t.alarm w b0 b1; unfold Rk.alarm at this; rw [loT_join _ _ h.l0 h.l1] at this; exact this)
   have x := a.c4
   clear he h a b0 b1
   go_enter Tryz.func202, Tryz.ntmps202
   go_wp2_with (go_at_call 180; refine (HC.out _).mono ?_; rintro e w' ⟨rfl, rfl⟩)
   go_ret
   exact ⟨rfl, rfl⟩
 . replace hV : t.ah = V := hV
   subst hV
   have HC := Hd (fun w => by have := Hi t.alarm w b0 b1; unfold Rk.alarm at this; rw [hiT_join _ _ h.l0 h.l1] at this; exact this)
   have x := a.c4
   clear he h a b0 b1
   go_enter Tryz.func202, Tryz.ntmps202
   go_wp2_with (go_at_call 219; refine (HC.out _).mono ?_; rintro e w' ⟨rfl, rfl⟩)
   go_ret
   exact ⟨rfl, rfl⟩
 . replace hV : tk t.en = V := hV
   subst hV
   have x := a.c5
   clear he h a b0 b1
   go_enter Tryz.func202, Tryz.ntmps202
   go_wp2_with fail
   go_ret
   exact ⟨rfl, rfl⟩
 . replace hV : tk t.st = V := hV
   subst hV
   have x := a.c6
   clear he h a b0 b1
   go_enter Tryz.func202, Tryz.ntmps202
   go_wp2_with fail
   go_ret
   exact ⟨rfl, rfl⟩
 . replace hV : t.div = V := hV
   subst hV
   have x := a.c0
   clear he h a b0 b1
   go_enter Tryz.func202, Tryz.ntmps202
   go_wp2_with fail
   go_ret
   exact ⟨rfl, rfl⟩
theorem eLoad (t : Rk) (o : Int) (p : Nat) (w : World) (h : t.ok) (a : EAt w p tRtc t) (o0 : 0 <= o) (o1 : o < 4294967296) :
 Calls Tryz.prog 153 #[.pointer (some ⟨p, 0, none⟩), .int .u32 o] w fun e w' => e = .returned (.tuple #[.int .u32 (t.valE o), .int .i64 (sErrT o)]) /\ Below w.heap.size w w' := by
 have HC := Hd (fun w a => eCheck t o p w h a o0 o1)
 have HV := Hd (fun w a he => eValue t o p w h a o0 he)
 have HD := Hd (show t.valE o = if sErrT o = 0 then t.val o else 0 from rfl)
 obtain ⟨V, hV⟩ : ∃ V, t.valE o = V := ⟨_, rfl⟩
 obtain ⟨U, hU⟩ : ∃ U, t.val o = U := ⟨_, rfl⟩
 obtain ⟨E, hE⟩ : ∃ E, sErrT o = E := ⟨_, rfl⟩
 rw [hV, hU, hE] at HD
 rw [hV, hE]
 rw [hE] at HC HV
 rw [hU] at HV
 clear hV hU hE h
 by_cases he : E = 0
 . subst he
   have hv := HD.out
   rw [if_pos rfl] at hv
   subst hv
   have HV2 := Hd (fun w a => HV.out w a rfl)
   clear HV HD
   go_enter Tryz.func153, Tryz.ntmps153
   go_wp2_with fail
   refine (HC.out _ a).mono ?_
   rintro e w1 ⟨rfl, h1⟩
   have A := a.below h1
   go_wp2_with fail
   refine (HV2.out _ A).mono ?_
   rintro e w2 ⟨rfl, rfl⟩
   go_wp2_with fail
   go_ret2
   exact ⟨rfl, h1⟩
 . have hv := HD.out
   rw [if_neg he] at hv
   subst hv
   have hn : (E == 0) = false := by simpa using he
   have hn2 : (E != 0) = true := by simpa using he
   clear HV HD he
   go_enter Tryz.func153, Tryz.ntmps153
   go_wp2_with fail
   refine (HC.out _ a).mono ?_
   rintro e w1 ⟨rfl, h1⟩
   go_wp2_with fail
   go_ret2
   exact ⟨rfl, h1⟩
theorem eReset (t : Rk) (p : Nat) (w : World) (a : EAt w p tRtc t) :
 Calls Tryz.prog 282 #[.pointer (some ⟨p, 0, none⟩)] w fun e w' => e = .returned (.tuple #[]) /\ EAt w' p tRtc t.zero /\ Off (· = p) w w' := by
 have x0 := a.c0
 have x1 := a.c1
 have x3 := a.c3
 have hl := a.lt
 go_enter Tryz.func282, Tryz.ntmps282
 go_upto_region 1 with (fail)
 have hg := gcell
 have hf := gfrozen
 refine wp_region_tail_below 19 (by kernel_rfl) (by kernel_rfl) ?_
 simp only [List.take_succ_cons, List.take_zero, List.drop_succ_cons, List.drop_zero]
 repeat (go_big_quiet_step (fail))
 refine wpQuiet_nil ?_
 intro _ hw'
 obtain ⟨⟨dq, osq⟩, hw''⟩ := hw'
 subst hw''
 have hb := below_regrown w dq osq
 have A := a.below hb
 have ho := Off.ofBelow (S := (· = p)) hb
 clear x0 x1 x3 hl hg hf a hb
 generalize grow (redrawn w dq) osq = W at *
 go_wp2_with (refine storeE rfl (.tmp 22) (.tmp 20) rfl rfl (t := t.zero) rfl A ?_)
 go_end0
 exact ⟨rfl, EAt.row A t.zero, ho.trans (off_rowE _ _ _)⟩
end Go.Proofs.YtpojmmgokgamgaaGreat.B
