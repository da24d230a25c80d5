/- Layer 10: an Rtc's block of seven cells; now, none, met, New, Seconds, Rest, Alarm, Met, Line, Left, Copy and nil ones. -/
import Derived.Test.YtcgmnjajodegmaaGreatZNac
import Derived.Test.YtcgmnjajodegmaaGreatZNap
import Derived.Deep.Cut
import Derived.Laws.StructEq
namespace Go.Proofs.YtcgmnjajodegmaaGreat.B
set_option linter.unusedVariables false
set_option linter.unusedSimpArgs false
set_option maxRecDepth 100000
open Go.ChangeShapes Go.WideShapes Go.RowKit Go.Sort
theorem tk_eq1 (b : Bool) : (tk b == 1) = b := by cases b <;> rfl
theorem iE : (Tryz.prog.info? 119).map (·.size) = some 7 := by kernel_rfl
def e7 (d r s : Int) (sec a : Int) (en st : Int) : List Value := [.int .u32 d, .int .u32 r, .int .u32 s, .int .u64 sec, .int .u64 a, .int .u32 en, .int .u32 st]
def el (t : Rk) : List Value := e7 t.div t.rest t.set t.sec t.alarm (tk t.en) (tk t.st)
theorem e7_one (d r s sec a en st : Int) : ∀ x ∈ e7 d r s sec a en st, x.oneCell' = true := by
  intro x h
  simp only [e7, List.mem_cons, List.not_mem_nil, or_false] at h
  rcases h with rfl | rfl | rfl | rfl | rfl | rfl | rfl <;> rfl
abbrev tRtc : TypeId := 200
abbrev tRst : TypeId := 119
def EAt (w : World) (b : Nat) (T : TypeId) (t : Rk) : Prop := w.heap[b]? = some (.cells (el t).toArray T (0, 0))
section
variable {w w' : World} {b : Nat} {T : TypeId} {t : Rk}
theorem EAt.lt (h : EAt w b T t) : b < w.heap.size := lt_of_block h
theorem EAt.below (h : EAt w b T t) (hb : Below w.heap.size w w') : EAt w' b T t := blk_below hb h h.lt
theorem EAt.off {S : Nat → Prop} (h : EAt w b T t) (ho : Off S w w') (hs : ¬ S b) : EAt w' b T t := ho.at h hs
theorem EAt.free (h : EAt w b T t) (j : Nat) : w.frozen? ⟨b, j, none⟩ = false := blk_free h j
theorem EAt.c0 (h : EAt w b T t) : w.cell? ⟨b, 0, none⟩ = some (.int .u32 t.div) := by rw [blk_cell h 0]; rfl
theorem EAt.c1 (h : EAt w b T t) : w.cell? ⟨b, 1, none⟩ = some (.int .u32 t.rest) := by rw [blk_cell h 1]; rfl
theorem EAt.c2 (h : EAt w b T t) : w.cell? ⟨b, 2, none⟩ = some (.int .u32 t.set) := by rw [blk_cell h 2]; rfl
theorem EAt.c3 (h : EAt w b T t) : w.cell? ⟨b, 3, none⟩ = some (.int .u64 t.sec) := by rw [blk_cell h 3]; rfl
theorem EAt.c4 (h : EAt w b T t) : w.cell? ⟨b, 4, none⟩ = some (.int .u64 t.alarm) := by rw [blk_cell h 4]; rfl
theorem EAt.c5 (h : EAt w b T t) : w.cell? ⟨b, 5, none⟩ = some (.int .u32 (tk t.en)) := by rw [blk_cell h 5]; rfl
theorem EAt.c6 (h : EAt w b T t) : w.cell? ⟨b, 6, none⟩ = some (.int .u32 (tk t.st)) := by rw [blk_cell h 6]; rfl
theorem EAt.set (h : EAt w b T t) (j : Nat) (x : Value) {s : Rk} (he : (el t).set j x = el s) : EAt (w.setCell ⟨b, j, none⟩ x) b T s := by
  unfold EAt; rw [blk_set h, ← he]; simp
theorem EAt.s1 (h : EAt w b T t) (x : Int) : EAt (w.setCell ⟨b, 1, none⟩ (.int .u32 x)) b T { t with rest := x } := h.set _ _ rfl
theorem EAt.s2 (h : EAt w b T t) (x : Int) : EAt (w.setCell ⟨b, 2, none⟩ (.int .u32 x)) b T { t with set := x } := h.set _ _ rfl
theorem EAt.s3 (h : EAt w b T t) (x : Int) : EAt (w.setCell ⟨b, 3, none⟩ (.int .u64 x)) b T { t with sec := x } := h.set _ _ rfl
theorem EAt.s4 (h : EAt w b T t) (a l : Int) : EAt (w.setCell ⟨b, 4, none⟩ (.int .u64 (join a l))) b T { t with ah := a, al := l } := h.set _ _ rfl
theorem EAt.s5 (h : EAt w b T t) (x : Bool) : EAt (w.setCell ⟨b, 5, none⟩ (.int .u32 (tk x))) b T { t with en := x } := h.set _ _ rfl
theorem EAt.s6 (h : EAt w b T t) (x : Bool) : EAt (w.setCell ⟨b, 6, none⟩ (.int .u32 (tk x))) b T { t with st := x } := h.set _ _ rfl
theorem EAt.other (h : EAt w b T t) (k j : Nat) (x : Value) (hne : b ≠ k) : EAt (w.setCell ⟨k, j, none⟩ x) b T t := blk_else h k j x hne
theorem EAt.row {old : Array Value} (h : w.heap[b]? = some (.cells old T (0, 0))) (t : Rk) : EAt (w.setRow b (el t).toArray) b T t := row_set _ h
theorem EAt.elseRow (h : EAt w b T t) (g : Nat) (cs : Array Value) (hne : b ≠ g) : EAt (w.setRow g cs) b T t := row_else g cs h hne
theorem EAt.alloc (h : EAt w b T t) (o : Obj) : EAt (w.alloc o) b T t := (blk_old w o h.lt).trans h
theorem EAt.grown (h : EAt w b T t) : ∀ w', (∃ p : Regrown, w' = grow (redrawn w p.d) p.os) → EAt w' b T t := grown_block h
end
section
variable {ops : Array Oper} {rest : List Oper} {o : Oper} {a : Act} {w : World} {Q : Exit → Act → World → Prop}
theorem loadE (hgd : o.guard = none) (x : Operand) (ho : o.op = .load 119 x) {b : Nat} {T : TypeId} (hx : a.eval x = .pointer (some ⟨b, 0, none⟩)) {t : Rk} (hg : EAt w b T t)
    (h : wpList Tryz.prog ops Q rest (a.put o.dst (.agg (el t).toArray)) w) : wpList Tryz.prog ops Q (o :: rest) a w :=
  wpList_load_part hgd _ x ho b 0 hx _ (el t) hg Tryz.underlying119 rfl iE (part_all _) h
theorem loadEg (x : Operand) (ho : o.op = .load 119 x) (hw : Region.wanted o (yielded ops a.tmps) = true) {b : Nat} {T : TypeId} (hx : a.eval x = .pointer (some ⟨b, 0, none⟩)) {t : Rk} (hg : EAt w b T t)
    (h : wpList Tryz.prog ops Q rest (a.put o.dst (.agg (el t).toArray)) w) : wpList Tryz.prog ops Q (o :: rest) a w :=
  wpList_load_part_g _ x ho hw b 0 hx _ (el t) hg Tryz.underlying119 rfl iE (part_all _) h
theorem storeE (hgd : o.guard = none) (x y : Operand) (ho : o.op = .store 119 x y) {b : Nat} {T : TypeId} (hx : a.eval x = .pointer (some ⟨b, 0, none⟩)) {t : Rk} (hy : a.eval y = .agg (el t).toArray) {t' : Rk} (hg : EAt w b T t')
    (h : wpList Tryz.prog ops Q rest (a.put o.dst undef) (w.setRow b (el t).toArray)) : wpList Tryz.prog ops Q (o :: rest) a w := by
  refine wpList_store_part hgd _ x y ho b 0 hx (el t) hy hg iE (by simp [el, e7]) (e7_one _ _ _ _ _ _ _) ?_
  rw [spliced_all _ _ (by simp [el, e7])]
  exact h
theorem qloadE {C : World → Prop} {K : Act → Prop} (x : Operand) (ho : o.op = .load 119 x) {b : Nat} {T : TypeId} (hx : a.eval x = .pointer (some ⟨b, 0, none⟩)) {t : Rk} (hg : ∀ w, C w → EAt w b T t)
    (h : K (a.put o.dst (.agg (el t).toArray))) : o.quiet Tryz.prog a C K :=
  quiet_load_part _ x ho b 0 hx _ (el t) (fun w hw => hg w hw) Tryz.underlying119 rfl iE (part_all _) h
end
theorem resE {fn : Func} {p : Tmp} (h : fn.results = #[.cell p 119]) (tmps : Array Value) (w : World) {b : Nat} {T : TypeId} {t : Rk} (hp : tmps[p]? = some (.pointer (some ⟨b, 0, none⟩))) (hg : EAt w b T t) :
    (results fn tmps).run Tryz.prog w = .ok (.agg (el t).toArray) w :=
  results_cell_one h tmps w b 0 _ (el t) hp hg Tryz.underlying119 rfl iE (part_all _)
def oE (T : TypeId) (t : Rk) : Obj := .cells (el t).toArray T (0, 0)
theorem oE_eq (T : TypeId) (t : Rk) : Obj.cells (el t).toArray T (0, 0) = oE T t := rfl
theorem zE_eq (T : TypeId) : Obj.cells #[.int .u32 0, .int .u32 0, .int .u32 0, .int .u64 0, .int .u64 0, .int .u32 0, .int .u32 0] T (0, 0) = oE T rkz := rfl
theorem zVE_eq : Value.agg #[.int .u32 0, .int .u32 0, .int .u32 0, .int .u64 0, .int .u64 0, .int .u32 0, .int .u32 0] = Value.agg (el rkz).toArray := rfl
theorem ea_new (w : World) (T : TypeId) (t : Rk) : EAt (w.alloc (oE T t)) w.heap.size T t := blk_new w _
theorem off_rowE (w : World) (p : Nat) (cs : Array Value) : Off (· = p) w (w.setRow p cs) := ⟨rfl, rfl, rfl, by simp, fun k _ hs => setRow_other w p k cs hs⟩
theorem eNone (t : Rk) (w : World) (h : t.ok) : Calls Tryz.prog 191 #[.agg (el t).toArray] w fun e w' => e = .returned (.bool false) ∧ Below w.heap.size w w' := by
  have X := ea_new w tRst t
  have hb := trA (tr0 w) (oE tRst t)
  have q : (t.div == 0) = false := by have := h.d0; simp; omega
  clear h
  go_enter Tryz.func191, Tryz.ntmps191
  go_upto_region 1 with (fail)
  rw [oE_eq]
  generalize w.alloc (oE tRst t) = W at *
  have x0 := X.c0
  have x1 := X.c1
  have x2 := X.c2
  have x3 := X.c3
  have x4 := X.c4
  have x5 := X.c5
  have x6 := X.c6
  clear X
  go_wp2_with fail
  go_ret
  exact ⟨rfl, hb⟩
theorem eNoneZero (w : World) : Calls Tryz.prog 191 #[.agg (el rkz).toArray] w fun e w' => e = .returned (.bool true) ∧ Below w.heap.size w w' := by
  have hb := trA (tr0 w) (oE tRst rkz)
  rw [← zVE_eq]
  go_enter Tryz.func191, Tryz.ntmps191
  go_wp2_with fail
  go_ret
  exact ⟨rfl, hb⟩
theorem eNow (t : Rk) (p : Nat) (w : World) (a : EAt w p tRtc t) : Calls Tryz.prog 63 #[.pointer (some ⟨p, 0, none⟩)] w fun e w' => e = .returned (.agg (el t).toArray) ∧ Below w.heap.size w w' := by
  have X := ea_new w tRst rkz
  have A := a.alloc (oE tRst rkz)
  have hb := trA (tr0 w) (oE tRst rkz)
  go_enter Tryz.func63, Tryz.ntmps63
  go_upto_region 1 with (fail)
  rw [zE_eq]
  clear a
  generalize w.alloc (oE tRst rkz) = W at *
  have Z := EAt.row X t
  have hB := below_setRow hb (el t).toArray (g := w.heap.size) (Nat.le_refl _)
  go_wp2_with (first | (refine loadE rfl (.tmp 8) rfl rfl A ?_) | (refine storeE rfl (.tmp 2) (.tmp 9) rfl rfl (t := t) rfl X ?_))
  exact bodyPost_ret (resE rfl _ _ rfl Z) rfl ⟨rfl, hB⟩
theorem eNowNil (w : World) : Calls Tryz.prog 63 #[.pointer none] w fun e w' => e = .returned (.agg (el rkz).toArray) ∧ Below w.heap.size w w' := by
  have X := ea_new w tRst rkz
  have hb := trA (tr0 w) (oE tRst rkz)
  go_enter Tryz.func63, Tryz.ntmps63
  go_upto_region 1 with (fail)
  rw [zE_eq]
  generalize w.alloc (oE tRst rkz) = W at *
  have Z := EAt.row X rkz
  have hB := below_setRow hb (el rkz).toArray (g := w.heap.size) (Nat.le_refl _)
  go_wp2_with (first | (refine storeE rfl (.tmp 2) (.tmp 5) rfl rfl (t := rkz) rfl X ?_))
  exact bodyPost_ret (resE rfl _ _ rfl Z) rfl ⟨rfl, hB⟩
theorem eMet (t : Rk) (w : World) (h : t.ok) : Calls Tryz.prog 168 #[.agg (el t).toArray] w fun e w' => e = .returned (.bool t.met) ∧ Below w.heap.size w w' := by
  have X := ea_new w tRst t
  have hb := trA (tr0 w) (oE tRst t)
  have x3 := X.c3
  have x4 := X.c4
  have x5 := X.c5
  obtain ⟨m, hm⟩ : ∃ m, t.met = m := ⟨_, rfl⟩
  rw [hm]
  unfold Rk.met at hm
  obtain ⟨A, hA⟩ : ∃ A, t.alarm = A := ⟨_, rfl⟩
  rw [hA] at hm x4
  clear hA h
  cases hen : t.en
  all_goals
    rw [hen] at hm x5
    unfold tk at x5
    have hM := Lib.hid hm
    clear hen hm
    go_enter Tryz.func168, Tryz.ntmps168
    go_upto_region 1 with (fail)
    rw [oE_eq]
    generalize w.alloc (oE tRst t) = W at *
    go_wp2_with fail
    go_ret
    exact ⟨ret_bool (by rw [← hM.out]; simp), hb⟩
theorem eMetZero (w : World) : Calls Tryz.prog 168 #[.agg (el rkz).toArray] w fun e w' => e = .returned (.bool false) ∧ Below w.heap.size w w' := by
  have hb := trA (tr0 w) (oE tRst rkz)
  rw [← zVE_eq]
  go_enter Tryz.func168, Tryz.ntmps168
  go_wp2_with fail
  go_ret
  exact ⟨rfl, hb⟩
theorem eNew (d : Int) (w : World) (d0 : 1 ≤ d) (d1 : d < 4294967296) : Calls Tryz.prog 74 #[.int .u32 d] w fun e w' => e = .returned (.tuple #[.pointer (some ⟨w.heap.size, 0, none⟩), .int .i64 0]) ∧ w' = w.alloc (oE tRtc (rk0 d)) := by
  have q : (d == 0) = false := by simp; omega
  have hz : Obj.cells #[.int .u32 d, .int .u32 0, .int .u32 0, .int .u64 0, .int .u64 0, .int .u32 0, .int .u32 0] tRtc (0, 0) = oE tRtc (rk0 d) := rfl
  rw [← hz]
  clear hz
  go_enter Tryz.func74, Tryz.ntmps74
  go_wp2_with fail
  go_ret2
  exact ⟨rfl, rfl⟩
theorem eNewZero (w : World) : Calls Tryz.prog 74 #[.int .u32 0] w fun e w' => e = .returned (.tuple #[.pointer none, .int .i64 5]) ∧ w = w' := by
  go_enter Tryz.func74, Tryz.ntmps74
  go_wp2_with fail
  go_ret2
  exact ⟨rfl, rfl⟩
theorem fldE (d r s sec a en st : Int) (w : World) : (Instr.field 119 (.agg #[.int .u32 d, .int .u32 r, .int .u32 s, .int .u64 sec, .int .u64 a, .int .u32 en, .int .u32 st]) 3).run Tryz.prog w = .ok (.int .u64 sec) w := by
  have ha : (isAgg 33).run Tryz.prog w = .ok false w := by kernel_rfl
  simp [Instr.field, Sem.run_bind, run_underlying Tryz.underlying119, part, ha, asAgg]
theorem fldE1 (d r s sec a en st : Int) (w : World) : (Instr.field 119 (.agg #[.int .u32 d, .int .u32 r, .int .u32 s, .int .u64 sec, .int .u64 a, .int .u32 en, .int .u32 st]) 1).run Tryz.prog w = .ok (.int .u32 r) w := by
  have ha : (isAgg 22).run Tryz.prog w = .ok false w := by kernel_rfl
  simp [Instr.field, Sem.run_bind, run_underlying Tryz.underlying119, part, ha, asAgg]
theorem fldE4 (d r s sec a en st : Int) (w : World) : (Instr.field 119 (.agg #[.int .u32 d, .int .u32 r, .int .u32 s, .int .u64 sec, .int .u64 a, .int .u32 en, .int .u32 st]) 4).run Tryz.prog w = .ok (.int .u64 a) w := by
  have ha : (isAgg 33).run Tryz.prog w = .ok false w := by kernel_rfl
  simp [Instr.field, Sem.run_bind, run_underlying Tryz.underlying119, part, ha, asAgg]
theorem fldE6 (d r s sec a en st : Int) (w : World) : (Instr.field 119 (.agg #[.int .u32 d, .int .u32 r, .int .u32 s, .int .u64 sec, .int .u64 a, .int .u32 en, .int .u32 st]) 6).run Tryz.prog w = .ok (.int .u32 st) w := by
  have ha : (isAgg 22).run Tryz.prog w = .ok false w := by kernel_rfl
  simp [Instr.field, Sem.run_bind, run_underlying Tryz.underlying119, part, ha, asAgg]
theorem eSeconds (t : Rk) (p : Nat) (w : World) (a : EAt w p tRtc t) : Calls Tryz.prog 25 #[.pointer (some ⟨p, 0, none⟩)] w fun e w' => e = .returned (.int .u64 t.sec) ∧ Below w.heap.size w w' := by
  go_enter Tryz.func25, Tryz.ntmps25
  go_wp2_with fail
  refine (eNow t p _ a).mono ?_
  rintro e w1 ⟨rfl, hb⟩
  have hf := fldE t.div t.rest t.set t.sec t.alarm (tk t.en) (tk t.st)
  unfold el e7
  go_wp2_with fail
  go_ret
  exact ⟨rfl, hb⟩
theorem eSecondsNil (w : World) : Calls Tryz.prog 25 #[.pointer none] w fun e w' => e = .returned (.int .u64 0) ∧ Below w.heap.size w w' := by
  go_enter Tryz.func25, Tryz.ntmps25
  go_wp2_with fail
  refine (eNowNil _).mono ?_
  rintro e w1 ⟨rfl, hb⟩
  rw [← zVE_eq]
  have hf := fldE 0 0 0 0 0 0 0
  go_wp2_with fail
  go_ret
  exact ⟨rfl, hb⟩
theorem eRest (t : Rk) (p : Nat) (w : World) (a : EAt w p tRtc t) : Calls Tryz.prog 114 #[.pointer (some ⟨p, 0, none⟩)] w fun e w' => e = .returned (.int .u32 t.rest) ∧ Below w.heap.size w w' := by
  go_enter Tryz.func114, Tryz.ntmps114
  go_wp2_with fail
  refine (eNow t p _ a).mono ?_
  rintro e w1 ⟨rfl, hb⟩
  have hf := fldE1 t.div t.rest t.set t.sec t.alarm (tk t.en) (tk t.st)
  unfold el e7
  go_wp2_with fail
  go_ret
  exact ⟨rfl, hb⟩
theorem eRestNil (w : World) : Calls Tryz.prog 114 #[.pointer none] w fun e w' => e = .returned (.int .u32 0) ∧ Below w.heap.size w w' := by
  go_enter Tryz.func114, Tryz.ntmps114
  go_wp2_with fail
  refine (eNowNil _).mono ?_
  rintro e w1 ⟨rfl, hb⟩
  rw [← zVE_eq]
  have hf := fldE1 0 0 0 0 0 0 0
  go_wp2_with fail
  go_ret
  exact ⟨rfl, hb⟩
theorem eAlarm (t : Rk) (p : Nat) (w : World) (a : EAt w p tRtc t) : Calls Tryz.prog 115 #[.pointer (some ⟨p, 0, none⟩)] w fun e w' => e = .returned (.int .u64 t.alarm) ∧ Below w.heap.size w w' := by
  go_enter Tryz.func115, Tryz.ntmps115
  go_wp2_with fail
  refine (eNow t p _ a).mono ?_
  rintro e w1 ⟨rfl, hb⟩
  have hf := fldE4 t.div t.rest t.set t.sec t.alarm (tk t.en) (tk t.st)
  unfold el e7
  go_wp2_with fail
  go_ret
  exact ⟨rfl, hb⟩
theorem eAlarmNil (w : World) : Calls Tryz.prog 115 #[.pointer none] w fun e w' => e = .returned (.int .u64 0) ∧ Below w.heap.size w w' := by
  go_enter Tryz.func115, Tryz.ntmps115
  go_wp2_with fail
  refine (eNowNil _).mono ?_
  rintro e w1 ⟨rfl, hb⟩
  rw [← zVE_eq]
  have hf := fldE4 0 0 0 0 0 0 0
  go_wp2_with fail
  go_ret
  exact ⟨rfl, hb⟩
theorem eLine (t : Rk) (p : Nat) (w : World) (a : EAt w p tRtc t) : Calls Tryz.prog 35 #[.pointer (some ⟨p, 0, none⟩)] w fun e w' => e = .returned (.bool t.st) ∧ Below w.heap.size w w' := by
  go_enter Tryz.func35, Tryz.ntmps35
  go_wp2_with fail
  refine (eNow t p _ a).mono ?_
  rintro e w1 ⟨rfl, hb⟩
  have hf := fldE6 t.div t.rest t.set t.sec t.alarm (tk t.en) (tk t.st)
  unfold el e7
  go_wp2_with fail
  go_ret
  exact ⟨ret_bool (tk_eq1 _), hb⟩
theorem eLineNil (w : World) : Calls Tryz.prog 35 #[.pointer none] w fun e w' => e = .returned (.bool false) ∧ Below w.heap.size w w' := by
  go_enter Tryz.func35, Tryz.ntmps35
  go_wp2_with fail
  refine (eNowNil _).mono ?_
  rintro e w1 ⟨rfl, hb⟩
  rw [← zVE_eq]
  have hf := fldE6 0 0 0 0 0 0 0
  go_wp2_with fail
  go_ret
  exact ⟨rfl, hb⟩
theorem eMetC (t : Rk) (p : Nat) (w : World) (h : t.ok) (a : EAt w p tRtc t) : Calls Tryz.prog 117 #[.pointer (some ⟨p, 0, none⟩)] w fun e w' => e = .returned (.bool t.met) ∧ Below w.heap.size w w' := by
  have M := Lib.hid (fun w => eMet t w h)
  go_enter Tryz.func117, Tryz.ntmps117
  go_wp2_with fail
  refine (eNow t p _ a).mono ?_
  rintro e w1 ⟨rfl, hb⟩
  go_wp2_with fail
  refine (M.out _).mono ?_
  rintro e w2 ⟨rfl, hb2⟩
  go_wp2_with fail
  go_ret
  exact ⟨rfl, tr hb hb2⟩
theorem eMetCNil (w : World) : Calls Tryz.prog 117 #[.pointer none] w fun e w' => e = .returned (.bool false) ∧ Below w.heap.size w w' := by
  go_enter Tryz.func117, Tryz.ntmps117
  go_wp2_with fail
  refine (eNowNil _).mono ?_
  rintro e w1 ⟨rfl, hb⟩
  go_wp2_with fail
  refine (eMetZero _).mono ?_
  rintro e w2 ⟨rfl, hb2⟩
  go_wp2_with fail
  go_ret
  exact ⟨rfl, tr hb hb2⟩
theorem eCopy (t : Rk) (p : Nat) (w : World) (a : EAt w p tRtc t) : Calls Tryz.prog 62 #[.pointer (some ⟨p, 0, none⟩)] w fun e w' => e = .returned (.pointer (some ⟨w.heap.size, 0, none⟩)) ∧ EAt w' w.heap.size tRtc t ∧ Below w.heap.size w w' := by
  have X := ea_new w tRtc t
  have hb := trA (tr0 w) (oE tRtc t)
  have ha := a.lt
  have x0 := a.c0
  have x1 := a.c1
  have x2 := a.c2
  have x3 := a.c3
  have x4 := a.c4
  have x5 := a.c5
  have x6 := a.c6
  clear a
  go_enter Tryz.func62, Tryz.ntmps62
  go_wp2_with fail
  go_ret
  exact ⟨rfl, X, hb⟩
theorem eCopyNil (w : World) : Calls Tryz.prog 62 #[.pointer none] w fun e w' => e = .returned (.pointer none) ∧ w = w' := by
  go_enter Tryz.func62, Tryz.ntmps62
  go_wp2_with fail
  go_ret
  exact ⟨rfl, rfl⟩
end Go.Proofs.YtcgmnjajodegmaaGreat.B
