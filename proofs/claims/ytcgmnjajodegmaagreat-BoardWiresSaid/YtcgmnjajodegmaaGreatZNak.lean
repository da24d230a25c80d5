/- Several texts in one: Layer 9: an Rstc's block; New, now, none, latched, Latch, Asked, Cause, Last, Count, check, Load, Store, Copy, Word. Layer 9: latched, Latch, check, Load, Store, Copy, Word. -/
import Derived.Test.YtcgmnjajodegmaaGreatZNab
import Derived.Test.YtcgmnjajodegmaaGreatZNac
import Derived.Test.YtcgmnjajodegmaaGreatZNag
import Derived.Test.YtcgmnjajodegmaaGreatZNaj
import Derived.Deep.Cut
namespace Go.Proofs.YtcgmnjajodegmaaGreat.B
set_option linter.unusedVariables false
set_option linter.unusedSimpArgs false
open Go.ChangeShapes Go.WideShapes Go.RowKit Go.Sort
theorem iS : (Tryz.prog.info? 217).map (·.size) = some 5 := by kernel_rfl
def s5 (ca ct ke la : Int) (qs : Bool) : List Value := [.int .u32 ca, .int .u32 ct, .int .u32 ke, .int .u32 la, .bool qs]
def al (t : Rs) : List Value := s5 t.ca t.ct 0 t.la t.qs
theorem al_one (t : Rs) : ∀ x ∈ al t, x.oneCell' = true := by
  intro x h
  simp only [al, s5, List.mem_cons, List.not_mem_nil, or_false] at h
  rcases h with rfl | rfl | rfl | rfl | rfl <;> rfl
abbrev tS : TypeId := 219
abbrev tSw : TypeId := 217
def SAt (w : World) (b : Nat) (T : TypeId) (t : Rs) : Prop := w.heap[b]? = some (.cells (al t).toArray T (0, 0))
section
variable {w w' : World} {b : Nat} {T : TypeId} {t : Rs}
theorem SAt.lt (h : SAt w b T t) : b < w.heap.size := lt_of_block h
theorem SAt.below (h : SAt w b T t) (hb : Below w.heap.size w w') : SAt w' b T t := blk_below hb h h.lt
theorem SAt.off {S : Nat → Prop} (h : SAt w b T t) (ho : Off S w w') (hs : ¬ S b) : SAt w' b T t := ho.at h hs
theorem SAt.free (h : SAt w b T t) (j : Nat) : w.frozen? ⟨b, j, none⟩ = false := blk_free h j
theorem SAt.c0 (h : SAt w b T t) : w.cell? ⟨b, 0, none⟩ = some (.int .u32 t.ca) := by rw [blk_cell h 0]; rfl
theorem SAt.c1 (h : SAt w b T t) : w.cell? ⟨b, 1, none⟩ = some (.int .u32 t.ct) := by rw [blk_cell h 1]; rfl
theorem SAt.c2 (h : SAt w b T t) : w.cell? ⟨b, 2, none⟩ = some (.int .u32 0) := by rw [blk_cell h 2]; rfl
theorem SAt.c3 (h : SAt w b T t) : w.cell? ⟨b, 3, none⟩ = some (.int .u32 t.la) := by rw [blk_cell h 3]; rfl
theorem SAt.c4 (h : SAt w b T t) : w.cell? ⟨b, 4, none⟩ = some (.bool t.qs) := by rw [blk_cell h 4]; rfl
theorem SAt.set (h : SAt w b T t) (j : Nat) (x : Value) {s : Rs} (he : (al t).set j x = al s) : SAt (w.setCell ⟨b, j, none⟩ x) b T s := by
  unfold SAt; rw [blk_set h, ← he]; simp
theorem SAt.s0 (h : SAt w b T t) (x : Int) : SAt (w.setCell ⟨b, 0, none⟩ (.int .u32 x)) b T { t with ca := x } := h.set _ _ rfl
theorem SAt.s1 (h : SAt w b T t) (x : Int) : SAt (w.setCell ⟨b, 1, none⟩ (.int .u32 x)) b T { t with ct := x } := h.set _ _ rfl
theorem SAt.s3 (h : SAt w b T t) (x : Int) : SAt (w.setCell ⟨b, 3, none⟩ (.int .u32 x)) b T { t with la := x } := h.set _ _ rfl
theorem SAt.s4 (h : SAt w b T t) (x : Bool) : SAt (w.setCell ⟨b, 4, none⟩ (.bool x)) b T { t with qs := x } := h.set _ _ rfl
theorem SAt.other (h : SAt w b T t) (k j : Nat) (x : Value) (hne : b ≠ k) : SAt (w.setCell ⟨k, j, none⟩ x) b T t := blk_else h k j x hne
theorem SAt.row {old : Array Value} (h : w.heap[b]? = some (.cells old T (0, 0))) (t : Rs) : SAt (w.setRow b (al t).toArray) b T t := row_set _ h
theorem SAt.elseRow (h : SAt w b T t) (g : Nat) (cs : Array Value) (hne : b ≠ g) : SAt (w.setRow g cs) b T t := row_else g cs h hne
theorem SAt.alloc (h : SAt w b T t) (o : Obj) : SAt (w.alloc o) b T t := (blk_old w o h.lt).trans h
theorem SAt.grown (h : SAt w b T t) : ∀ w', (∃ p : Regrown, w' = grow (redrawn w p.d) p.os) → SAt w' b T t := grown_block h
end
section
variable {ops : Array Oper} {rest : List Oper} {o : Oper} {a : Act} {w : World} {Q : Exit → Act → World → Prop}
theorem loadS (hgd : o.guard = none) (x : Operand) (ho : o.op = .load 217 x) {b : Nat} {T : TypeId} (hx : a.eval x = .pointer (some ⟨b, 0, none⟩)) {t : Rs} (hg : SAt w b T t)
    (h : wpList Tryz.prog ops Q rest (a.put o.dst (.agg (al t).toArray)) w) : wpList Tryz.prog ops Q (o :: rest) a w :=
  wpList_load_part hgd _ x ho b 0 hx _ (al t) hg Tryz.underlying217 rfl iS (part_all _) h
theorem storeS (hgd : o.guard = none) (x y : Operand) (ho : o.op = .store 217 x y) {b : Nat} {T : TypeId} (hx : a.eval x = .pointer (some ⟨b, 0, none⟩)) {t : Rs} (hy : a.eval y = .agg (al t).toArray) {t' : Rs} (hg : SAt w b T t')
    (h : wpList Tryz.prog ops Q rest (a.put o.dst undef) (w.setRow b (al t).toArray)) : wpList Tryz.prog ops Q (o :: rest) a w := by
  refine wpList_store_part hgd _ x y ho b 0 hx (al t) hy hg iS (by simp [al, s5]) (al_one t) ?_
  rw [spliced_all _ _ (by simp [al, s5])]
  exact h
end
theorem resS {fn : Func} {p : Tmp} (h : fn.results = #[.cell p 217]) (tmps : Array Value) (w : World) {b : Nat} {T : TypeId} {t : Rs} (hp : tmps[p]? = some (.pointer (some ⟨b, 0, none⟩))) (hg : SAt w b T t) :
    (results fn tmps).run Tryz.prog w = .ok (.agg (al t).toArray) w :=
  results_cell_one h tmps w b 0 _ (al t) hp hg Tryz.underlying217 rfl iS (part_all _)
def oS9 (T : TypeId) (t : Rs) : Obj := .cells (al t).toArray T (0, 0)
theorem oS9_eq (T : TypeId) (t : Rs) : Obj.cells (al t).toArray T (0, 0) = oS9 T t := rfl
theorem zS_eq (T : TypeId) : Obj.cells #[.int .u32 0, .int .u32 0, .int .u32 0, .int .u32 0, .bool false] T (0, 0) = oS9 T rs0 := rfl
theorem at_new (w : World) (T : TypeId) (t : Rs) : SAt (w.alloc (oS9 T t)) w.heap.size T t := blk_new w _
/-- Words compared with none. -/
def isz (t : Rs) : Bool := eqs [t.ca, t.ct, 0, t.la] [0, 0, 0, 0] && (t.qs == false)
theorem isz_ok {t : Rs} (h : t.ok) : isz t = false := by
  have hl := h.l0
  unfold isz eqs
  rw [Bool.and_eq_false_iff]
  left
  rw [beq_eq_false_iff_ne]
  intro e
  simp only [List.cons.injEq, and_true] at e
  omega
theorem isz0 : isz rs0 = true := rfl
theorem eqS (a b c d a' b' c' d' : Int) (e e' : Bool) (w : World) :
    (Op.equalIn 10000 217 (.agg (s5 a b c d e).toArray) (.agg (s5 a' b' c' d' e').toArray)).run Tryz.prog w = .ok (eqs [a, b, c, d] [a', b', c', d'] && (e == e')) w := by
  have hi : (Tryz.prog.info? 22).isSome = true := by kernel_rfl
  obtain ⟨i, hi⟩ := Option.isSome_iff_exists.1 hi
  have hc : Tryz.prog.cellsOf 22 = 1 := by kernel_rfl
  have h := run_equalIn_array w 9998 (i := i) #[.int .u32 a, .int .u32 b, .int .u32 c, .int .u32 d] #[.int .u32 a', .int .u32 b', .int .u32 c', .int .u32 d'] Tryz.underlying206 hi
  rw [hc] at h
  have g := eqItems_ints 9997 22 .u32 Tryz.underlying22 [a, b, c, d] [a', b', c', d'] w (List.range 4) (by intro i hi; simpa using hi)
  have r := all_range [a, b, c, d] [a', b', c', d'] rfl
  have key := (h.trans g).trans (congrArg (fun b => Result.ok b w) r)
  rw [run_equalIn_struct w 9999 217 _ _ (by kernel_rfl) (by kernel_rfl)]
  simp only [Program.fieldsOf, Tryz.underlying217]
  simp only [Op.eqFields]
  have pa : ∀ (a b c d : Int) (e : Bool), (part 206 (s5 a b c d e).toArray 0).run Tryz.prog w = .ok (.agg #[.int .u32 a, .int .u32 b, .int .u32 c, .int .u32 d]) w := fun a b c d e => by
    have hs : (sizeOf 206).run Tryz.prog w = .ok 4 w := by kernel_rfl
    have ha : (isAgg 206).run Tryz.prog w = .ok true w := by kernel_rfl
    simp [part, ha, hs, Sem.run_bind, s5]
  have pb : ∀ (a b c d : Int) (e : Bool), (part 4 (s5 a b c d e).toArray 4).run Tryz.prog w = .ok (.bool e) w := fun a b c d e => by
    have ha : (isAgg 4).run Tryz.prog w = .ok false w := by kernel_rfl
    simp [part, ha, Sem.run_bind, s5]
  rw [if_pos (by decide), if_pos (by decide)]
  simp only [Sem.run_bind, pa, pb, Result.andThen_ok, key]
  have hq := run_equalIn_bool w 9998 4 e e' Tryz.underlying4
  rw [show 9998 + 1 = 9999 from rfl] at hq
  cases eqs [a, b, c, d] [a', b', c', d']
  · simp
  · cases hx : e == e'
    · rw [hx] at hq; simp [pb, hq]
    · rw [hx] at hq; simp [pb, hq]
theorem eqSl (s t : Rs) (w : World) : (Op.equalIn 10000 217 (.agg (al s).toArray) (.agg (al t).toArray)).run Tryz.prog w = .ok (eqs [s.ca, s.ct, 0, s.la] [t.ca, t.ct, 0, t.la] && (s.qs == t.qs)) w := eqS _ _ _ _ _ _ _ _ _ _ w
theorem eqNone {ops : Array Oper} {rest : List Oper} {o : Oper} {a : Act} {w : World} {Q : Exit → Act → World → Prop} (hgd : o.guard = none) (x y : Operand) (u : TypeId) (ho : o.op = .binOp .eql 217 x y u) {t : Rs} (hx : a.eval x = .agg (al t).toArray) (hy : a.eval y = .agg (al rs0).toArray)
    (h : wpList Tryz.prog ops Q rest (a.put o.dst (.bool (isz t))) w) : wpList Tryz.prog ops Q (o :: rest) a w :=
  wpList_plain hgd fun _ hK => by
    have hg : (eqGuard .eql 217 x y (.agg (al t).toArray) (.agg (al rs0).toArray)).run Tryz.prog w = .ok () w := by
      have e : Tryz.prog.eqGuardType Tryz.prog.depth 217 = false := by kernel_rfl
      simp [eqGuard, Sem.run_bind, run_program, e]
    have hb : (binOp .eql 217 (.agg (al t).toArray) (.agg (al rs0).toArray)).run Tryz.prog w = .ok (.bool (isz t)) w := by
      have e := eqSl t rs0 w
      simp only [binOp, Op.equal, Sem.run_bind, Op.maxDepth]
      rw [e]
      rfl
    unfold Oper.wp execOp
    simp only [ho, hx, hy, Sem.run_bind, hg, hb, Result.andThen_ok]
    exact hK _ _ h
theorem rsNone (t : Rs) (w : World) : Calls Tryz.prog 194 #[.agg (al t).toArray] w fun e w' => e = .returned (.bool (isz t)) ∧ Below w.heap.size w w' := by
  have X := at_new w tSw t
  have hb := trA (tr0 w) (oS9 tSw t)
  go_enter Tryz.func194, Tryz.ntmps194
  go_upto_region 1 with (fail)
  rw [oS9_eq]
  generalize w.alloc (oS9 tSw t) = W at *
  go_wp2_with (first | (refine loadS rfl (.tmp 1) rfl rfl X ?_) | (refine eqNone rfl (.tmp 3) (.tmp 4) _ rfl rfl rfl ?_))
  go_ret
  exact ⟨rfl, hb⟩
theorem rsNow (t : Rs) (p : Nat) (w : World) (a : SAt w p tS t) : Calls Tryz.prog 171 #[.pointer (some ⟨p, 0, none⟩)] w fun e w' => e = .returned (.agg (al t).toArray) ∧ Below w.heap.size w w' := by
  have X := at_new w tSw rs0
  have A := a.alloc (oS9 tSw rs0)
  have hb := trA (tr0 w) (oS9 tSw rs0)
  go_enter Tryz.func171, Tryz.ntmps171
  go_upto_region 1 with (fail)
  rw [zS_eq]
  clear a
  generalize w.alloc (oS9 tSw rs0) = W at *
  have Z := SAt.row X t
  have hB := below_setRow hb (al t).toArray (g := w.heap.size) (Nat.le_refl _)
  go_wp2_with (first | (refine loadS rfl (.tmp 8) rfl rfl A ?_) | (refine storeS rfl (.tmp 2) (.tmp 9) rfl rfl (t := t) rfl X ?_))
  exact bodyPost_ret (resS rfl _ _ rfl Z) rfl ⟨rfl, hB⟩
theorem rsNowNil (w : World) : Calls Tryz.prog 171 #[.pointer none] w fun e w' => e = .returned (.agg (al rs0).toArray) ∧ Below w.heap.size w w' := by
  have X := at_new w tSw rs0
  have hb := trA (tr0 w) (oS9 tSw rs0)
  go_enter Tryz.func171, Tryz.ntmps171
  go_upto_region 1 with (fail)
  rw [zS_eq]
  generalize w.alloc (oS9 tSw rs0) = W at *
  have Z := SAt.row X rs0
  have hB := below_setRow hb (al rs0).toArray (g := w.heap.size) (Nat.le_refl _)
  go_wp2_with (first | (refine storeS rfl (.tmp 2) (.tmp 5) rfl rfl (t := rs0) rfl X ?_))
  exact bodyPost_ret (resS rfl _ _ rfl Z) rfl ⟨rfl, hB⟩
theorem rsNew (w : World) : Calls Tryz.prog 76 #[] w fun e w' => e = .returned (.pointer (some ⟨w.heap.size, 0, none⟩)) ∧ SAt w' w.heap.size tS rsN ∧ Below w.heap.size w w' := by
  have X := at_new w tS rs0
  have hb := trA (tr0 w) (oS9 tS rs0)
  go_enter Tryz.func76, Tryz.ntmps76
  go_upto_region 2 with (fail)
  rw [zS_eq]
  generalize w.alloc (oS9 tS rs0) = W at *
  have f0 := X.free 0
  have f3 := X.free 3
  have x0 := X.c0
  have x3 := X.c3
  have Y1 := (X.s0 1).s3 1
  have Y2 := (X.s3 1).s0 1
  have B1 := (hb.setCell (p := ⟨w.heap.size, 0, none⟩) (Nat.le_refl _) (.int .u32 1)).setCell (p := ⟨w.heap.size, 3, none⟩) (Nat.le_refl _) (.int .u32 1)
  have B2 := (hb.setCell (p := ⟨w.heap.size, 3, none⟩) (Nat.le_refl _) (.int .u32 1)).setCell (p := ⟨w.heap.size, 0, none⟩) (Nat.le_refl _) (.int .u32 1)
  clear X hb
  go_region
  all_goals
    go_wp2_with fail
    go_ret
    first | exact ⟨rfl, Y1, B1⟩ | exact ⟨rfl, Y2, B2⟩ | exact ⟨rfl, Y1.below (trD (tr0 _)), trD B1⟩ | exact ⟨rfl, Y2.below (trD (tr0 _)), trD B2⟩
/-- Fields of words by value, and one of their registers. -/
theorem fldR (ca ct ke la : Int) (qs : Bool) (w : World) : (Instr.field 217 (.agg #[.int .u32 ca, .int .u32 ct, .int .u32 ke, .int .u32 la, .bool qs]) 0).run Tryz.prog w = .ok (.agg #[.int .u32 ca, .int .u32 ct, .int .u32 ke, .int .u32 la]) w := by
  have hs : (sizeOf 206).run Tryz.prog w = .ok 4 w := by kernel_rfl
  have ha : (isAgg 206).run Tryz.prog w = .ok true w := by kernel_rfl
  simp [Instr.field, Sem.run_bind, run_underlying Tryz.underlying217, part, ha, hs, asAgg]
theorem fldQ (ca ct ke la : Int) (qs : Bool) (w : World) : (Instr.field 217 (.agg #[.int .u32 ca, .int .u32 ct, .int .u32 ke, .int .u32 la, .bool qs]) 1).run Tryz.prog w = .ok (.bool qs) w := by
  have ha : (isAgg 4).run Tryz.prog w = .ok false w := by kernel_rfl
  simp [Instr.field, Sem.run_bind, run_underlying Tryz.underlying217, part, ha, asAgg]
theorem idxR (ca ct ke la : Int) (i : Int) (x : Int) (h : (i = 0 ∧ x = ca) ∨ (i = 1 ∧ x = ct) ∨ (i = 3 ∧ x = la)) (w : World) : (Instr.index 206 (.agg #[.int .u32 ca, .int .u32 ct, .int .u32 ke, .int .u32 la]) (.int .i64 i)).run Tryz.prog w = .ok (.int .u32 x) w := by
  have hs : (sizeOf 22).run Tryz.prog w = .ok 1 w := by kernel_rfl
  have ha : (isAgg 22).run Tryz.prog w = .ok false w := by kernel_rfl
  rcases h with ⟨rfl, rfl⟩ | ⟨rfl, rfl⟩ | ⟨rfl, rfl⟩ <;> simp [Instr.index, Sem.run_bind, run_underlying Tryz.underlying206, part, ha, hs, asIntOf]
theorem rsAsked (t : Rs) (p : Nat) (w : World) (a : SAt w p tS t) : Calls Tryz.prog 125 #[.pointer (some ⟨p, 0, none⟩)] w fun e w' => e = .returned (.bool t.qs) ∧ Below w.heap.size w w' := by
  go_enter Tryz.func125, Tryz.ntmps125
  go_wp2_with fail
  refine (rsNow t p _ a).mono ?_
  rintro e w1 ⟨rfl, hb⟩
  have hf := fldQ t.ca t.ct 0 t.la t.qs
  unfold al s5
  go_wp2_with fail
  go_ret
  exact ⟨rfl, hb⟩
theorem rsAskedNil (w : World) : Calls Tryz.prog 125 #[.pointer none] w fun e w' => e = .returned (.bool false) ∧ Below w.heap.size w w' := by
  go_enter Tryz.func125, Tryz.ntmps125
  go_wp2_with fail
  refine (rsNowNil _).mono ?_
  rintro e w1 ⟨rfl, hb⟩
  have hf := fldQ 0 0 0 0 false
  unfold al s5 rs0
  go_wp2_with fail
  go_ret
  exact ⟨rfl, hb⟩
end Go.Proofs.YtcgmnjajodegmaaGreat.B
namespace Go.Proofs.YtcgmnjajodegmaaGreat.B
set_option linter.unusedVariables false
set_option linter.unusedSimpArgs false
open Go.ChangeShapes Go.WideShapes Go.RowKit Go.Sort
theorem rsLatched (t : Rs) (c : Int) (w : World) (h : t.ok) (hc : 0 ≤ c) (hc1 : c < 4294967296) :
    Calls Tryz.prog 195 #[.agg (al t).toArray, .int .u32 c] w fun e w' => e = .returned (.agg (al (t.put c)).toArray) ∧ Below w.heap.size w w' := by
  have hB := trA (trA (tr0 w) (oS9 tSw t)) (oS9 tSw rs0)
  have X : SAt ((w.alloc (oS9 tSw t)).alloc (oS9 tSw rs0)) w.heap.size tSw t := b2_0 w _ _
  have Y : SAt ((w.alloc (oS9 tSw t)).alloc (oS9 tSw rs0)) (w.heap.size + 1) tSw rs0 := b2_1 w _ _
  have n0 := h.c0
  have n1 := h.c1
  have HP : (⟨bits BinOp.or IntKind.u32 t.ca c, up1 t.ct, c, false⟩ : Rs) = t.put c := rfl
  by_cases hm : t.ct < 4294967295
  · have hu : up1 t.ct = t.ct + 1 := by unfold up1; rw [if_pos hm]
    rw [hu] at HP
    clear hu
    go_enter Tryz.func195, Tryz.ntmps195
    go_upto_region 1 with (fail)
    rw [zS_eq, oS9_eq]
    generalize ((w.alloc (oS9 tSw t)).alloc (oS9 tSw rs0)) = W at *
    have x0 := X.c0
    have x1 := X.c1
    have x3 := X.c3
    have x4 := X.c4
    have f0 := X.free 0
    have f1 := X.free 1
    have f3 := X.free 3
    have f4 := X.free 4
    go_upto_region 6 with (fail)
    have X2 := (((X.s0 (bits BinOp.or IntKind.u32 t.ca c)).s3 c).s1 (t.ct + 1)).s4 false
    have Y2 := (((Y.other w.heap.size 0 (.int .u32 (bits BinOp.or IntKind.u32 t.ca c)) (by omega)).other w.heap.size 3 (.int .u32 c) (by omega)).other w.heap.size 1 (.int .u32 (t.ct + 1)) (by omega)).other w.heap.size 4 (.bool false) (by omega)
    have hB2 := (((hB.setCell (p := ⟨w.heap.size, 0, none⟩) (by simp) (.int .u32 (bits BinOp.or IntKind.u32 t.ca c))).setCell (p := ⟨w.heap.size, 3, none⟩) (by simp) (.int .u32 c)).setCell (p := ⟨w.heap.size, 1, none⟩) (by simp) (.int .u32 (t.ct + 1))).setCell (p := ⟨w.heap.size, 4, none⟩) (by simp) (.bool false)
    clear X Y hB x0 x1 x3 x4 f0 f1 f3 f4
    generalize ((((W.setCell ⟨w.heap.size, 0, none⟩ (.int .u32 (bits BinOp.or IntKind.u32 t.ca c))).setCell ⟨w.heap.size, 3, none⟩ (.int .u32 c)).setCell ⟨w.heap.size, 1, none⟩ (.int .u32 (t.ct + 1))).setCell ⟨w.heap.size, 4, none⟩ (.bool false)) = W2 at *
    have X3 : SAt W2 w.heap.size tSw (t.put c) := by rw [← HP]; exact X2
    clear X2 HP
    have Y3 := SAt.row Y2 (t.put c)
    have hB3 := below_setRow hB2 (al (t.put c)).toArray (g := w.heap.size + 1) (by omega)
    go_wp2_with (first | (refine loadS rfl (.tmp 2) rfl rfl X3 ?_) | (refine storeS rfl (.tmp 4) (.tmp 26) rfl rfl rfl Y2 ?_))
    exact bodyPost_ret (resS rfl _ _ rfl Y3) rfl ⟨rfl, hB3⟩
  · have hu : up1 t.ct = t.ct := by unfold up1; rw [if_neg hm]
    rw [hu] at HP
    clear hu
    go_enter Tryz.func195, Tryz.ntmps195
    go_upto_region 1 with (fail)
    rw [zS_eq, oS9_eq]
    generalize ((w.alloc (oS9 tSw t)).alloc (oS9 tSw rs0)) = W at *
    have x0 := X.c0
    have x1 := X.c1
    have x3 := X.c3
    have x4 := X.c4
    have f0 := X.free 0
    have f1 := X.free 1
    have f3 := X.free 3
    have f4 := X.free 4
    go_upto_region 6 with (fail)
    have X2 := ((X.s0 (bits BinOp.or IntKind.u32 t.ca c)).s3 c).s4 false
    have Y2 := ((Y.other w.heap.size 0 (.int .u32 (bits BinOp.or IntKind.u32 t.ca c)) (by omega)).other w.heap.size 3 (.int .u32 c) (by omega)).other w.heap.size 4 (.bool false) (by omega)
    have hB2 := ((hB.setCell (p := ⟨w.heap.size, 0, none⟩) (by simp) (.int .u32 (bits BinOp.or IntKind.u32 t.ca c))).setCell (p := ⟨w.heap.size, 3, none⟩) (by simp) (.int .u32 c)).setCell (p := ⟨w.heap.size, 4, none⟩) (by simp) (.bool false)
    clear X Y hB x0 x1 x3 x4 f0 f1 f3 f4
    generalize (((W.setCell ⟨w.heap.size, 0, none⟩ (.int .u32 (bits BinOp.or IntKind.u32 t.ca c))).setCell ⟨w.heap.size, 3, none⟩ (.int .u32 c)).setCell ⟨w.heap.size, 4, none⟩ (.bool false)) = W2 at *
    have X3 : SAt W2 w.heap.size tSw (t.put c) := by rw [← HP]; exact X2
    clear X2 HP
    have Y3 := SAt.row Y2 (t.put c)
    have hB3 := below_setRow hB2 (al (t.put c)).toArray (g := w.heap.size + 1) (by omega)
    go_wp2_with (first | (refine loadS rfl (.tmp 2) rfl rfl X3 ?_) | (refine storeS rfl (.tmp 4) (.tmp 26) rfl rfl rfl Y2 ?_))
    exact bodyPost_ret (resS rfl _ _ rfl Y3) rfl ⟨rfl, hB3⟩
theorem off_rowS (w : World) (p : Nat) (cs : Array Value) : Off (· = p) w (w.setRow p cs) := ⟨rfl, rfl, rfl, by simp, fun k _ hs => setRow_other w p k cs hs⟩
/-- What Latch returns, and leaves. -/
theorem rsLatchYes (t : Rs) (c : Int) (p : Nat) (w : World) (h : t.ok) (hc : isC c) (a : SAt w p tS t) :
    Calls Tryz.prog 172 #[.pointer (some ⟨p, 0, none⟩), .int .i64 c] w fun e w' => e = .returned (.bool true) ∧ SAt w' p tS (t.put c) ∧ Off (· = p) w w' := by
  obtain ⟨b0, b1⟩ := isC_bounds hc
  have HN := Lib.hid (fun w => by have := rsNone t w; rw [isz_ok h] at this; exact this)
  obtain ⟨s, hs⟩ : ∃ s, t.put c = s := ⟨_, rfl⟩
  have HL := Lib.hid (fun w => by have := rsLatched t c w h (by omega) (by omega); rw [hs] at this; exact this)
  rw [hs]
  clear hs
  go_enter Tryz.func172, Tryz.ntmps172
  go_wp2_with fail
  refine (rsNow t p _ a).mono ?_
  rintro e w1 ⟨rfl, h1⟩
  go_wp2_with fail
  refine (HN.out _).mono ?_
  rintro e w2 ⟨rfl, h2⟩
  have A := (a.below (tr h1 h2))
  have hB := tr h1 h2
  clear h1 h2 HN a
  unfold isC at hc
  rcases hc with rfl | rfl | rfl | rfl
  all_goals
    go_wp2_with (refine loadS rfl (.tmp 17) rfl rfl A ?_)
    refine (HL.out _).mono ?_
    rintro e w3 ⟨rfl, h3⟩
    have A3 := A.below h3
    have Z := SAt.row A3 s
    have hO := (Off.ofBelow (S := (· = p)) hB).trans ((Off.ofBelow h3).trans (off_rowS w3 p (al s).toArray))
    go_wp2_with (refine storeS rfl (.tmp 23) (.tmp 21) rfl rfl rfl A3 ?_)
    go_ret
    exact ⟨rfl, Z, hO⟩
theorem rsLatchNo (t : Rs) (c : Int) (p : Nat) (w : World) (h : t.ok) (hc : ¬ isC c) (a : SAt w p tS t) :
    Calls Tryz.prog 172 #[.pointer (some ⟨p, 0, none⟩), .int .i64 c] w fun e w' => e = .returned (.bool false) ∧ Below w.heap.size w w' := by
  have HN := Lib.hid (fun w => by have := rsNone t w; rw [isz_ok h] at this; exact this)
  have n2 : (c == 2) = false := by unfold isC at hc; simp; omega
  have n4 : (c == 4) = false := by unfold isC at hc; simp; omega
  have n8 : (c == 8) = false := by unfold isC at hc; simp; omega
  have n16 : (c == 16) = false := by unfold isC at hc; simp; omega
  clear hc
  go_enter Tryz.func172, Tryz.ntmps172
  go_wp2_with fail
  refine (rsNow t p _ a).mono ?_
  rintro e w1 ⟨rfl, h1⟩
  go_wp2_with fail
  refine (HN.out _).mono ?_
  rintro e w2 ⟨rfl, h2⟩
  go_wp2_with fail
  go_ret
  exact ⟨rfl, tr h1 h2⟩
/-- Both. -/
theorem rsLatch (t : Rs) (c : Int) (p : Nat) (w : World) (h : t.ok) (a : SAt w p tS t) :
    Calls Tryz.prog 172 #[.pointer (some ⟨p, 0, none⟩), .int .i64 c] w fun e w' => e = .returned (.bool (decide (isC c))) ∧ SAt w' p tS (t.ltc c) ∧ Off (· = p) w w' := by
  by_cases hc : isC c
  · have e1 : t.ltc c = t.put c := by unfold Rs.ltc; rw [if_pos hc]
    rw [e1, decide_eq_true hc]
    exact rsLatchYes t c p w h hc a
  · have e1 : t.ltc c = t := by unfold Rs.ltc; rw [if_neg hc]
    rw [e1, decide_eq_false hc]
    refine (rsLatchNo t c p w h hc a).mono ?_
    rintro e w1 ⟨rfl, h1⟩
    exact ⟨rfl, a.below h1, Off.ofBelow h1⟩
theorem rsLatchNil (c : Int) (w : World) :
    Calls Tryz.prog 172 #[.pointer none, .int .i64 c] w fun e w' => e = .returned (.bool false) ∧ Below w.heap.size w w' := by
  have HN := Lib.hid (fun w => by have := rsNone rs0 w; rw [isz0] at this; exact this)
  go_enter Tryz.func172, Tryz.ntmps172
  go_wp2_with fail
  refine (rsNowNil _).mono ?_
  rintro e w1 ⟨rfl, h1⟩
  go_wp2_with fail
  refine (HN.out _).mono ?_
  rintro e w2 ⟨rfl, h2⟩
  go_wp2_with fail
  go_ret
  exact ⟨rfl, tr h1 h2⟩
theorem rsCheck (t : Rs) (o : Int) (p : Nat) (w : World) (h : t.ok) (a : SAt w p tS t) (o0 : 0 ≤ o) (o1 : o < 4294967296) :
    Calls Tryz.prog 268 #[.pointer (some ⟨p, 0, none⟩), .int .u32 o] w fun e w' => e = .returned (.int .i64 (sErr9 o)) ∧ Below w.heap.size w w' := by
  have HN := Lib.hid (fun w => by have := rsNone t w; rw [isz_ok h] at this; exact this)
  cases h4 : (o % 4 != 0)
  · by_cases h16 : 16 ≤ o
    · have HE := Lib.hid (show sErr9 o = 10 by unfold sErr9; rw [if_neg (by simpa using h4), if_pos h16])
      go_enter Tryz.func268, Tryz.ntmps268
      go_wp2_with fail
      refine (rsNow t p _ a).mono ?_
      rintro e w1 ⟨rfl, h1⟩
      go_wp2_with fail
      refine (HN.out _).mono ?_
      rintro e w2 ⟨rfl, h2⟩
      go_wp2_with fail
      go_ret
      exact ⟨ret_int HE.out.symm, tr h1 h2⟩
    · have HE := Lib.hid (show sErr9 o = 0 by unfold sErr9; rw [if_neg (by simpa using h4), if_neg h16])
      go_enter Tryz.func268, Tryz.ntmps268
      go_wp2_with fail
      refine (rsNow t p _ a).mono ?_
      rintro e w1 ⟨rfl, h1⟩
      go_wp2_with fail
      refine (HN.out _).mono ?_
      rintro e w2 ⟨rfl, h2⟩
      go_wp2_with fail
      go_ret
      exact ⟨ret_int HE.out.symm, tr h1 h2⟩
  · have HE := Lib.hid (show sErr9 o = 11 by unfold sErr9; rw [if_pos (by simpa using h4)])
    go_enter Tryz.func268, Tryz.ntmps268
    go_wp2_with fail
    refine (rsNow t p _ a).mono ?_
    rintro e w1 ⟨rfl, h1⟩
    go_wp2_with fail
    refine (HN.out _).mono ?_
    rintro e w2 ⟨rfl, h2⟩
    go_wp2_with fail
    go_ret
    exact ⟨ret_int HE.out.symm, tr h1 h2⟩
theorem rsCheckNil (o : Int) (w : World) :
    Calls Tryz.prog 268 #[.pointer none, .int .u32 o] w fun e w' => e = .returned (.int .i64 10) ∧ Below w.heap.size w w' := by
  have HN := Lib.hid (fun w => by have := rsNone rs0 w; rw [isz0] at this; exact this)
  go_enter Tryz.func268, Tryz.ntmps268
  go_wp2_with fail
  refine (rsNowNil _).mono ?_
  rintro e w1 ⟨rfl, h1⟩
  go_wp2_with fail
  refine (HN.out _).mono ?_
  rintro e w2 ⟨rfl, h2⟩
  go_wp2_with fail
  go_ret
  exact ⟨rfl, tr h1 h2⟩
def sVal9 (t : Rs) (o : Int) : Int := if sErr9 o = 0 then t.val o else 0
set_option maxHeartbeats 800000 in
theorem rsLoad (t : Rs) (o : Int) (p : Nat) (w : World) (h : t.ok) (a : SAt w p tS t) (o0 : 0 ≤ o) (o1 : o < 4294967296) :
    Calls Tryz.prog 266 #[.pointer (some ⟨p, 0, none⟩), .int .u32 o] w fun e w' => e = .returned (.tuple #[.int .u32 (sVal9 t o), .int .i64 (sErr9 o)]) ∧ Below w.heap.size w w' := by
  have HC := Lib.hid (fun w a => rsCheck t o p w h a o0 o1)
  obtain ⟨V, hV⟩ : ∃ V, sVal9 t o = V := ⟨_, rfl⟩
  by_cases he : sErr9 o = 0
  · rw [he] at HC ⊢
    have hv : V = t.val o := by rw [← hV]; unfold sVal9; rw [if_pos he]
    rw [hV]
    clear hV
    rcases sErr9_zero o0 he with rfl | rfl | rfl | rfl
    · replace hv : V = t.ca := hv
      subst hv
      clear he
      go_enter Tryz.func266, Tryz.ntmps266
      go_wp2_with fail
      refine (HC.out _ a).mono ?_
      rintro e w1 ⟨rfl, h1⟩
      have A := a.below h1
      have x0 := A.c0
      go_wp2_with fail
      go_ret2
      exact ⟨rfl, h1⟩
    · replace hv : V = t.ct := hv
      subst hv
      clear he
      go_enter Tryz.func266, Tryz.ntmps266
      go_wp2_with fail
      refine (HC.out _ a).mono ?_
      rintro e w1 ⟨rfl, h1⟩
      have A := a.below h1
      have x0 := A.c1
      go_wp2_with fail
      go_ret2
      exact ⟨rfl, h1⟩
    · replace hv : V = 0 := hv
      subst hv
      clear he
      go_enter Tryz.func266, Tryz.ntmps266
      go_wp2_with fail
      refine (HC.out _ a).mono ?_
      rintro e w1 ⟨rfl, h1⟩
      have A := a.below h1
      have x0 := A.c2
      go_wp2_with fail
      go_ret2
      exact ⟨rfl, h1⟩
    · replace hv : V = t.la := hv
      subst hv
      clear he
      go_enter Tryz.func266, Tryz.ntmps266
      go_wp2_with fail
      refine (HC.out _ a).mono ?_
      rintro e w1 ⟨rfl, h1⟩
      have A := a.below h1
      have x0 := A.c3
      go_wp2_with fail
      go_ret2
      exact ⟨rfl, h1⟩
  · have hv : V = 0 := by rw [← hV]; unfold sVal9; rw [if_neg he]
    subst hv
    rw [hV]
    obtain ⟨E, hE⟩ : ∃ E, sErr9 o = E := ⟨_, rfl⟩
    rw [hE] at HC he ⊢
    have q1 : (E != 0) = true := by simpa using he
    clear hV hE he
    go_enter Tryz.func266, Tryz.ntmps266
    go_wp2_with fail
    refine (HC.out _ a).mono ?_
    rintro e w1 ⟨rfl, h1⟩
    go_wp2_with fail
    go_ret2
    exact ⟨rfl, h1⟩
theorem rsLoadNil (o : Int) (w : World) :
    Calls Tryz.prog 266 #[.pointer none, .int .u32 o] w fun e w' => e = .returned (.tuple #[.int .u32 0, .int .i64 10]) ∧ Below w.heap.size w w' := by
  go_enter Tryz.func266, Tryz.ntmps266
  go_wp2_with fail
  refine (rsCheckNil o _).mono ?_
  rintro e w1 ⟨rfl, h1⟩
  go_wp2_with fail
  go_ret2
  exact ⟨rfl, h1⟩
theorem rsStoreNil (o v : Int) (w : World) :
    Calls Tryz.prog 267 #[.pointer none, .int .u32 o, .int .u32 v] w fun e w' => e = .returned (.int .i64 10) ∧ Below w.heap.size w w' := by
  go_enter Tryz.func267, Tryz.ntmps267
  go_wp2_with fail
  refine (rsCheckNil o _).mono ?_
  rintro e w1 ⟨rfl, h1⟩
  go_wp2_with fail
  go_ret
  exact ⟨rfl, h1⟩
theorem rsCopy (t : Rs) (p : Nat) (w : World) (a : SAt w p tS t) :
    Calls Tryz.prog 122 #[.pointer (some ⟨p, 0, none⟩)] w fun e w' => e = .returned (.pointer (some ⟨w.heap.size, 0, none⟩)) ∧ SAt w' w.heap.size tS t ∧ Below w.heap.size w w' := by
  have x0 := a.c0
  have x1 := a.c1
  have x2 := a.c2
  have x3 := a.c3
  have x4 := a.c4
  have hb := trA (tr0 w) (oS9 tS t)
  have X := at_new w tS t
  have ha := a.lt
  go_enter Tryz.func122, Tryz.ntmps122
  go_wp2_with fail
  go_ret
  exact ⟨rfl, X, hb⟩
theorem rsCopyNil (w : World) : Calls Tryz.prog 122 #[.pointer none] w fun e w' => e = .returned (.pointer none) ∧ w = w' := by
  go_enter Tryz.func122, Tryz.ntmps122
  go_wp2_with fail
  go_ret
  exact ⟨rfl, rfl⟩
end Go.Proofs.YtcgmnjajodegmaaGreat.B
