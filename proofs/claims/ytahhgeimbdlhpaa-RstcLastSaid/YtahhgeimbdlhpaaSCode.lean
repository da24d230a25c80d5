/- Layer 9: an Rstc's block; New, now, none, latched, Latch, Asked, Cause, Last, Count, check, Load, Store, Copy, Word. -/
import Derived.Test.YtahhgeimbdlhpaaSPlain
import Derived.Test.YtahhgeimbdlhpaaArr
import Derived.Test.YtahhgeimbdlhpaaMap
import Derived.Test.YtahhgeimbdlhpaaEqs
import Derived.Test.YtahhgeimbdlhpaaBMask
import Derived.Deep.Cut
namespace Go.Proofs.Ytahhgeimbdlhpaa.B
set_option linter.unusedVariables false
set_option linter.unusedSimpArgs false
open Go.ChangeShapes Go.WideShapes Go.RowKit Go.Sort
theorem iS : (Try.prog.info? 54).map (·.size) = some 5 := by kernel_rfl
def s5 (ca ct ke la : Int) (qs : Bool) : List Value := [.int .u32 ca, .int .u32 ct, .int .u32 ke, .int .u32 la, .bool qs]
def al (t : Rs) : List Value := s5 t.ca t.ct 0 t.la t.qs
theorem al_one (t : Rs) : ∀ x ∈ al t, x.oneCell' = true := by
  intro x h
  simp only [al, s5, List.mem_cons, List.not_mem_nil, or_false] at h
  rcases h with rfl | rfl | rfl | rfl | rfl <;> rfl
abbrev tS : TypeId := 56
abbrev tSw : TypeId := 54
def SAt (w : World) (b : Nat) (T : TypeId) (t : Rs) : Prop := w.heap[b]? = some (.cells (al t).toArray T (0, 0))
section
variable {w w' : World} {b : Nat} {T : TypeId} {t : Rs}
theorem SAt.lt (h : SAt w b T t) : b < w.heap.size := lt_of_block h
theorem SAt.below (h : SAt w b T t) (hb : Below w.heap.size w w') : SAt w' b T t := blk_below hb h h.lt
theorem SAt.off {S : Nat → Prop} (h : SAt w b T t) (ho : Off S w w') (hs : ¬ S b) : SAt w' b T t := ho.at h hs
theorem SAt.free (h : SAt w b T t) (j : Nat) : w.frozen? ⟨b, j, none⟩ = false := blk_free h j
theorem SAt.c0 (h : SAt w b T t) : w.cell? ⟨b, 0, none⟩ = some (.int .u32 t.ca) := by rw [blk_cell h 0]; rfl
theorem SAt.c1 (h : SAt w b T t) : w.cell? ⟨b, 1, none⟩ = some (.int .u32 t.ct) := by rw [blk_cell h 1]; rfl
theorem SAt.c2 (h : SAt w b T t) : w.cell? ⟨b, 2, none⟩ = some (.int .u32 0) := by rw [blk_cell h 2]; rfl
theorem SAt.c3 (h : SAt w b T t) : w.cell? ⟨b, 3, none⟩ = some (.int .u32 t.la) := by rw [blk_cell h 3]; rfl
theorem SAt.c4 (h : SAt w b T t) : w.cell? ⟨b, 4, none⟩ = some (.bool t.qs) := by rw [blk_cell h 4]; rfl
theorem SAt.set (h : SAt w b T t) (j : Nat) (x : Value) {s : Rs} (he : (al t).set j x = al s) : SAt (w.setCell ⟨b, j, none⟩ x) b T s := by
  unfold SAt; rw [blk_set h, ← he]; simp
theorem SAt.s0 (h : SAt w b T t) (x : Int) : SAt (w.setCell ⟨b, 0, none⟩ (.int .u32 x)) b T { t with ca := x } := h.set _ _ rfl
theorem SAt.s1 (h : SAt w b T t) (x : Int) : SAt (w.setCell ⟨b, 1, none⟩ (.int .u32 x)) b T { t with ct := x } := h.set _ _ rfl
theorem SAt.s3 (h : SAt w b T t) (x : Int) : SAt (w.setCell ⟨b, 3, none⟩ (.int .u32 x)) b T { t with la := x } := h.set _ _ rfl
theorem SAt.s4 (h : SAt w b T t) (x : Bool) : SAt (w.setCell ⟨b, 4, none⟩ (.bool x)) b T { t with qs := x } := h.set _ _ rfl
theorem SAt.other (h : SAt w b T t) (k j : Nat) (x : Value) (hne : b ≠ k) : SAt (w.setCell ⟨k, j, none⟩ x) b T t := blk_else h k j x hne
theorem SAt.row {old : Array Value} (h : w.heap[b]? = some (.cells old T (0, 0))) (t : Rs) : SAt (w.setRow b (al t).toArray) b T t := row_set _ h
theorem SAt.elseRow (h : SAt w b T t) (g : Nat) (cs : Array Value) (hne : b ≠ g) : SAt (w.setRow g cs) b T t := row_else g cs h hne
theorem SAt.alloc (h : SAt w b T t) (o : Obj) : SAt (w.alloc o) b T t := (blk_old w o h.lt).trans h
theorem SAt.grown (h : SAt w b T t) : ∀ w', (∃ p : Regrown, w' = grow (redrawn w p.d) p.os) → SAt w' b T t := grown_block h
end
section
variable {ops : Array Oper} {rest : List Oper} {o : Oper} {a : Act} {w : World} {Q : Exit → Act → World → Prop}
theorem loadS (hgd : o.guard = none) (x : Operand) (ho : o.op = .load 54 x) {b : Nat} {T : TypeId} (hx : a.eval x = .pointer (some ⟨b, 0, none⟩)) {t : Rs} (hg : SAt w b T t)
    (h : wpList Try.prog ops Q rest (a.put o.dst (.agg (al t).toArray)) w) : wpList Try.prog ops Q (o :: rest) a w :=
  wpList_load_part hgd _ x ho b 0 hx _ (al t) hg Try.underlying54 rfl iS (part_all _) h
theorem storeS (hgd : o.guard = none) (x y : Operand) (ho : o.op = .store 54 x y) {b : Nat} {T : TypeId} (hx : a.eval x = .pointer (some ⟨b, 0, none⟩)) {t : Rs} (hy : a.eval y = .agg (al t).toArray) {t' : Rs} (hg : SAt w b T t')
    (h : wpList Try.prog ops Q rest (a.put o.dst undef) (w.setRow b (al t).toArray)) : wpList Try.prog ops Q (o :: rest) a w := by
  refine wpList_store_part hgd _ x y ho b 0 hx (al t) hy hg iS (by simp [al, s5]) (al_one t) ?_
  rw [spliced_all _ _ (by simp [al, s5])]
  exact h
end
theorem resS {fn : Func} {p : Tmp} (h : fn.results = #[.cell p 54]) (tmps : Array Value) (w : World) {b : Nat} {T : TypeId} {t : Rs} (hp : tmps[p]? = some (.pointer (some ⟨b, 0, none⟩))) (hg : SAt w b T t) :
    (results fn tmps).run Try.prog w = .ok (.agg (al t).toArray) w :=
  results_cell_one h tmps w b 0 _ (al t) hp hg Try.underlying54 rfl iS (part_all _)
def oS9 (T : TypeId) (t : Rs) : Obj := .cells (al t).toArray T (0, 0)
theorem oS9_eq (T : TypeId) (t : Rs) : Obj.cells (al t).toArray T (0, 0) = oS9 T t := rfl
theorem zS_eq (T : TypeId) : Obj.cells #[.int .u32 0, .int .u32 0, .int .u32 0, .int .u32 0, .bool false] T (0, 0) = oS9 T rs0 := rfl
theorem at_new (w : World) (T : TypeId) (t : Rs) : SAt (w.alloc (oS9 T t)) w.heap.size T t := blk_new w _
/-- Words compared with none. -/
def isz (t : Rs) : Bool := eqs [t.ca, t.ct, 0, t.la] [0, 0, 0, 0] && (t.qs == false)
theorem isz_ok {t : Rs} (h : t.ok) : isz t = false := by
  have hl := h.l0
  unfold isz eqs
  rw [Bool.and_eq_false_iff]
  left
  rw [beq_eq_false_iff_ne]
  intro e
  simp only [List.cons.injEq, and_true] at e
  omega
theorem isz0 : isz rs0 = true := rfl
theorem eqS (a b c d a' b' c' d' : Int) (e e' : Bool) (w : World) :
    (Op.equalIn 10000 54 (.agg (s5 a b c d e).toArray) (.agg (s5 a' b' c' d' e').toArray)).run Try.prog w = .ok (eqs [a, b, c, d] [a', b', c', d'] && (e == e')) w := by
  have hi : (Try.prog.info? 26).isSome = true := by kernel_rfl
  obtain ⟨i, hi⟩ := Option.isSome_iff_exists.1 hi
  have hc : Try.prog.cellsOf 26 = 1 := by kernel_rfl
  have h := run_equalIn_array w 9998 (i := i) #[.int .u32 a, .int .u32 b, .int .u32 c, .int .u32 d] #[.int .u32 a', .int .u32 b', .int .u32 c', .int .u32 d'] Try.underlying52 hi
  rw [hc] at h
  have g := eqItems_ints 9997 26 .u32 Try.underlying26 [a, b, c, d] [a', b', c', d'] w (List.range 4) (by intro i hi; simpa using hi)
  have r := all_range [a, b, c, d] [a', b', c', d'] rfl
  have key := (h.trans g).trans (congrArg (fun b => Result.ok b w) r)
  rw [run_equalIn_struct w 9999 54 _ _ (by kernel_rfl) (by kernel_rfl)]
  simp only [Program.fieldsOf, Try.underlying54]
  simp only [Op.eqFields]
  have pa : ∀ (a b c d : Int) (e : Bool), (part 52 (s5 a b c d e).toArray 0).run Try.prog w = .ok (.agg #[.int .u32 a, .int .u32 b, .int .u32 c, .int .u32 d]) w := fun a b c d e => by
    have hs : (sizeOf 52).run Try.prog w = .ok 4 w := by kernel_rfl
    have ha : (isAgg 52).run Try.prog w = .ok true w := by kernel_rfl
    simp [part, ha, hs, Sem.run_bind, s5]
  have pb : ∀ (a b c d : Int) (e : Bool), (part 4 (s5 a b c d e).toArray 4).run Try.prog w = .ok (.bool e) w := fun a b c d e => by
    have ha : (isAgg 4).run Try.prog w = .ok false w := by kernel_rfl
    simp [part, ha, Sem.run_bind, s5]
  rw [if_pos (by decide), if_pos (by decide)]
  simp only [Sem.run_bind, pa, pb, Result.andThen_ok, key]
  have hq := run_equalIn_bool w 9998 4 e e' Try.underlying4
  rw [show 9998 + 1 = 9999 from rfl] at hq
  cases eqs [a, b, c, d] [a', b', c', d']
  · simp
  · cases hx : e == e'
    · rw [hx] at hq; simp [pb, hq]
    · rw [hx] at hq; simp [pb, hq]
theorem eqSl (s t : Rs) (w : World) : (Op.equalIn 10000 54 (.agg (al s).toArray) (.agg (al t).toArray)).run Try.prog w = .ok (eqs [s.ca, s.ct, 0, s.la] [t.ca, t.ct, 0, t.la] && (s.qs == t.qs)) w := eqS _ _ _ _ _ _ _ _ _ _ w
theorem eqNone {ops : Array Oper} {rest : List Oper} {o : Oper} {a : Act} {w : World} {Q : Exit → Act → World → Prop} (hgd : o.guard = none) (x y : Operand) (u : TypeId) (ho : o.op = .binOp .eql 54 x y u) {t : Rs} (hx : a.eval x = .agg (al t).toArray) (hy : a.eval y = .agg (al rs0).toArray)
    (h : wpList Try.prog ops Q rest (a.put o.dst (.bool (isz t))) w) : wpList Try.prog ops Q (o :: rest) a w :=
  wpList_plain hgd fun _ hK => by
    have hg : (eqGuard .eql 54 x y (.agg (al t).toArray) (.agg (al rs0).toArray)).run Try.prog w = .ok () w := by
      have e : Try.prog.eqGuardType Try.prog.depth 54 = false := by kernel_rfl
      simp [eqGuard, Sem.run_bind, run_program, e]
    have hb : (binOp .eql 54 (.agg (al t).toArray) (.agg (al rs0).toArray)).run Try.prog w = .ok (.bool (isz t)) w := by
      have e := eqSl t rs0 w
      simp only [binOp, Op.equal, Sem.run_bind, Op.maxDepth]
      rw [e]
      rfl
    unfold Oper.wp execOp
    simp only [ho, hx, hy, Sem.run_bind, hg, hb, Result.andThen_ok]
    exact hK _ _ h
theorem rsNone (t : Rs) (w : World) : Calls Try.prog 24 #[.agg (al t).toArray] w fun e w' => e = .returned (.bool (isz t)) ∧ Below w.heap.size w w' := by
  have X := at_new w tSw t
  have hb := trA (tr0 w) (oS9 tSw t)
  go_enter Try.func24, Try.ntmps24
  go_upto_region 1 with (fail)
  rw [oS9_eq]
  generalize w.alloc (oS9 tSw t) = W at *
  go_wp2_with (first | (refine loadS rfl (.tmp 1) rfl rfl X ?_) | (refine eqNone rfl (.tmp 3) (.tmp 4) _ rfl rfl rfl ?_))
  go_ret
  exact ⟨rfl, hb⟩
theorem rsNow (t : Rs) (p : Nat) (w : World) (a : SAt w p tS t) : Calls Try.prog 23 #[.pointer (some ⟨p, 0, none⟩)] w fun e w' => e = .returned (.agg (al t).toArray) ∧ Below w.heap.size w w' := by
  have X := at_new w tSw rs0
  have A := a.alloc (oS9 tSw rs0)
  have hb := trA (tr0 w) (oS9 tSw rs0)
  go_enter Try.func23, Try.ntmps23
  go_upto_region 1 with (fail)
  rw [zS_eq]
  clear a
  generalize w.alloc (oS9 tSw rs0) = W at *
  have Z := SAt.row X t
  have hB := below_setRow hb (al t).toArray (g := w.heap.size) (Nat.le_refl _)
  go_wp2_with (first | (refine loadS rfl (.tmp 8) rfl rfl A ?_) | (refine storeS rfl (.tmp 2) (.tmp 9) rfl rfl (t := t) rfl X ?_))
  exact bodyPost_ret (resS rfl _ _ rfl Z) rfl ⟨rfl, hB⟩
theorem rsNowNil (w : World) : Calls Try.prog 23 #[.pointer none] w fun e w' => e = .returned (.agg (al rs0).toArray) ∧ Below w.heap.size w w' := by
  have X := at_new w tSw rs0
  have hb := trA (tr0 w) (oS9 tSw rs0)
  go_enter Try.func23, Try.ntmps23
  go_upto_region 1 with (fail)
  rw [zS_eq]
  generalize w.alloc (oS9 tSw rs0) = W at *
  have Z := SAt.row X rs0
  have hB := below_setRow hb (al rs0).toArray (g := w.heap.size) (Nat.le_refl _)
  go_wp2_with (first | (refine storeS rfl (.tmp 2) (.tmp 5) rfl rfl (t := rs0) rfl X ?_))
  exact bodyPost_ret (resS rfl _ _ rfl Z) rfl ⟨rfl, hB⟩
theorem rsNew (w : World) : Calls Try.prog 6 #[] w fun e w' => e = .returned (.pointer (some ⟨w.heap.size, 0, none⟩)) ∧ SAt w' w.heap.size tS rsN ∧ Below w.heap.size w w' := by
  have X := at_new w tS rs0
  have hb := trA (tr0 w) (oS9 tS rs0)
  go_enter Try.func6, Try.ntmps6
  go_upto_region 2 with (fail)
  rw [zS_eq]
  generalize w.alloc (oS9 tS rs0) = W at *
  have f0 := X.free 0
  have f3 := X.free 3
  have x0 := X.c0
  have x3 := X.c3
  have Y1 := (X.s0 1).s3 1
  have Y2 := (X.s3 1).s0 1
  have B1 := (hb.setCell (p := ⟨w.heap.size, 0, none⟩) (Nat.le_refl _) (.int .u32 1)).setCell (p := ⟨w.heap.size, 3, none⟩) (Nat.le_refl _) (.int .u32 1)
  have B2 := (hb.setCell (p := ⟨w.heap.size, 3, none⟩) (Nat.le_refl _) (.int .u32 1)).setCell (p := ⟨w.heap.size, 0, none⟩) (Nat.le_refl _) (.int .u32 1)
  clear X hb
  go_region
  all_goals
    go_wp2_with fail
    go_ret
    first | exact ⟨rfl, Y1, B1⟩ | exact ⟨rfl, Y2, B2⟩ | exact ⟨rfl, Y1.below (trD (tr0 _)), trD B1⟩ | exact ⟨rfl, Y2.below (trD (tr0 _)), trD B2⟩
/-- Fields of words by value, and one of their registers. -/
theorem fldR (ca ct ke la : Int) (qs : Bool) (w : World) : (Instr.field 54 (.agg #[.int .u32 ca, .int .u32 ct, .int .u32 ke, .int .u32 la, .bool qs]) 0).run Try.prog w = .ok (.agg #[.int .u32 ca, .int .u32 ct, .int .u32 ke, .int .u32 la]) w := by
  have hs : (sizeOf 52).run Try.prog w = .ok 4 w := by kernel_rfl
  have ha : (isAgg 52).run Try.prog w = .ok true w := by kernel_rfl
  simp [Instr.field, Sem.run_bind, run_underlying Try.underlying54, part, ha, hs, asAgg]
theorem fldQ (ca ct ke la : Int) (qs : Bool) (w : World) : (Instr.field 54 (.agg #[.int .u32 ca, .int .u32 ct, .int .u32 ke, .int .u32 la, .bool qs]) 1).run Try.prog w = .ok (.bool qs) w := by
  have ha : (isAgg 4).run Try.prog w = .ok false w := by kernel_rfl
  simp [Instr.field, Sem.run_bind, run_underlying Try.underlying54, part, ha, asAgg]
theorem idxR (ca ct ke la : Int) (i : Int) (x : Int) (h : (i = 0 ∧ x = ca) ∨ (i = 1 ∧ x = ct) ∨ (i = 3 ∧ x = la)) (w : World) : (Instr.index 52 (.agg #[.int .u32 ca, .int .u32 ct, .int .u32 ke, .int .u32 la]) (.int .i64 i)).run Try.prog w = .ok (.int .u32 x) w := by
  have hs : (sizeOf 26).run Try.prog w = .ok 1 w := by kernel_rfl
  have ha : (isAgg 26).run Try.prog w = .ok false w := by kernel_rfl
  rcases h with ⟨rfl, rfl⟩ | ⟨rfl, rfl⟩ | ⟨rfl, rfl⟩ <;> simp [Instr.index, Sem.run_bind, run_underlying Try.underlying52, part, ha, hs, asIntOf]
theorem rsAsked (t : Rs) (p : Nat) (w : World) (a : SAt w p tS t) : Calls Try.prog 21 #[.pointer (some ⟨p, 0, none⟩)] w fun e w' => e = .returned (.bool t.qs) ∧ Below w.heap.size w w' := by
  go_enter Try.func21, Try.ntmps21
  go_wp2_with fail
  refine (rsNow t p _ a).mono ?_
  rintro e w1 ⟨rfl, hb⟩
  have hf := fldQ t.ca t.ct 0 t.la t.qs
  unfold al s5
  go_wp2_with fail
  go_ret
  exact ⟨rfl, hb⟩
theorem rsAskedNil (w : World) : Calls Try.prog 21 #[.pointer none] w fun e w' => e = .returned (.bool false) ∧ Below w.heap.size w w' := by
  go_enter Try.func21, Try.ntmps21
  go_wp2_with fail
  refine (rsNowNil _).mono ?_
  rintro e w1 ⟨rfl, hb⟩
  have hf := fldQ 0 0 0 0 false
  unfold al s5 rs0
  go_wp2_with fail
  go_ret
  exact ⟨rfl, hb⟩
theorem rsCause (t : Rs) (p : Nat) (w : World) (h : t.ok) (a : SAt w p tS t) : Calls Try.prog 17 #[.pointer (some ⟨p, 0, none⟩)] w fun e w' => e = .returned (.int .i64 t.ca) ∧ Below w.heap.size w w' := by
  have a0 := h.a0
  have a1 := h.a1
  go_enter Try.func17, Try.ntmps17
  go_wp2_with fail
  refine (rsNow t p _ a).mono ?_
  rintro e w1 ⟨rfl, hb⟩
  have hf := fldR t.ca t.ct 0 t.la t.qs
  have hi := idxR t.ca t.ct 0 t.la 0 t.ca (by simp)
  unfold al s5
  go_wp2_with fail
  go_ret
  exact ⟨rfl, hb⟩
theorem rsCauseNil (w : World) : Calls Try.prog 17 #[.pointer none] w fun e w' => e = .returned (.int .i64 0) ∧ Below w.heap.size w w' := by
  go_enter Try.func17, Try.ntmps17
  go_wp2_with fail
  refine (rsNowNil _).mono ?_
  rintro e w1 ⟨rfl, hb⟩
  have hf := fldR 0 0 0 0 false
  have hi := idxR 0 0 0 0 0 0 (by simp)
  unfold al s5 rs0
  go_wp2_with fail
  go_ret
  exact ⟨rfl, hb⟩
theorem rsLast (t : Rs) (p : Nat) (w : World) (h : t.ok) (a : SAt w p tS t) : Calls Try.prog 19 #[.pointer (some ⟨p, 0, none⟩)] w fun e w' => e = .returned (.int .i64 t.la) ∧ Below w.heap.size w w' := by
  have a0 := h.l0
  have a1 := h.l1
  go_enter Try.func19, Try.ntmps19
  go_wp2_with fail
  refine (rsNow t p _ a).mono ?_
  rintro e w1 ⟨rfl, hb⟩
  have hf := fldR t.ca t.ct 0 t.la t.qs
  have hi := idxR t.ca t.ct 0 t.la 3 t.la (by simp)
  unfold al s5
  go_wp2_with fail
  go_ret
  exact ⟨rfl, hb⟩
theorem rsLastNil (w : World) : Calls Try.prog 19 #[.pointer none] w fun e w' => e = .returned (.int .i64 0) ∧ Below w.heap.size w w' := by
  go_enter Try.func19, Try.ntmps19
  go_wp2_with fail
  refine (rsNowNil _).mono ?_
  rintro e w1 ⟨rfl, hb⟩
  have hf := fldR 0 0 0 0 false
  have hi := idxR 0 0 0 0 3 0 (by simp)
  unfold al s5 rs0
  go_wp2_with fail
  go_ret
  exact ⟨rfl, hb⟩
theorem rsCount (t : Rs) (p : Nat) (w : World) (a : SAt w p tS t) : Calls Try.prog 20 #[.pointer (some ⟨p, 0, none⟩)] w fun e w' => e = .returned (.int .u32 t.ct) ∧ Below w.heap.size w w' := by
  go_enter Try.func20, Try.ntmps20
  go_wp2_with fail
  refine (rsNow t p _ a).mono ?_
  rintro e w1 ⟨rfl, hb⟩
  have hf := fldR t.ca t.ct 0 t.la t.qs
  have hi := idxR t.ca t.ct 0 t.la 1 t.ct (by simp)
  unfold al s5
  go_wp2_with fail
  go_ret
  exact ⟨rfl, hb⟩
theorem rsCountNil (w : World) : Calls Try.prog 20 #[.pointer none] w fun e w' => e = .returned (.int .u32 0) ∧ Below w.heap.size w w' := by
  go_enter Try.func20, Try.ntmps20
  go_wp2_with fail
  refine (rsNowNil _).mono ?_
  rintro e w1 ⟨rfl, hb⟩
  have hf := fldR 0 0 0 0 false
  have hi := idxR 0 0 0 0 1 0 (by simp)
  unfold al s5 rs0
  go_wp2_with fail
  go_ret
  exact ⟨rfl, hb⟩
end Go.Proofs.Ytahhgeimbdlhpaa.B
