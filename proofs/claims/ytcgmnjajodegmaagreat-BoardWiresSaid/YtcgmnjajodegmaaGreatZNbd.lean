/- Several texts in one: A board as it is, and what is told of it. A board's resets, told; its config. -/
import Derived.Test.YtcgmnjajodegmaaGreatZNba
import Derived.Test.YtcgmnjajodegmaaGreatZNDLay
namespace Go.Proofs.YtcgmnjajodegmaaGreat.B
set_option linter.unusedVariables false
set_option linter.unusedSimpArgs false
set_option maxRecDepth 100000
open Go.ChangeShapes Go.WideShapes Go.RowKit Go.Sort Go.Shelf
theorem iBd : (Tryz.prog.info? 89).map (·.size) = some 11 := by kernel_rfl
section
variable {ops : Array Oper} {rest : List Oper} {o : Oper} {a : Act} {w : World} {Q : Exit → Act → World → Prop}
theorem loadBd (hgd : o.guard = none) (x : Operand) (ho : o.op = .load 89 x) {b : Nat} (hx : a.eval x = .pointer (some ⟨b, 0, none⟩)) (vs : List Value) (hl : vs.length = 11) (hg : w.heap[b]? = some (.cells vs.toArray tBd (0, 0)))
    (h : wpList Tryz.prog ops Q rest (a.put o.dst (.agg vs.toArray)) w) : wpList Tryz.prog ops Q (o :: rest) a w :=
  wpList_load_part hgd _ x ho b 0 hx _ vs hg Tryz.underlying89 rfl (by rw [hl]; exact iBd) (part_all _) h
theorem storeBd (hgd : o.guard = none) (x y : Operand) (ho : o.op = .store 89 x y) {b : Nat} (hx : a.eval x = .pointer (some ⟨b, 0, none⟩)) (vs us : List Value) (hl : vs.length = 11) (hu : us.length = 11) (h1 : ∀ v ∈ vs, v.oneCell' = true) (hy : a.eval y = .agg vs.toArray) (hg : w.heap[b]? = some (.cells us.toArray tBd (0, 0)))
    (h : wpList Tryz.prog ops Q rest (a.put o.dst undef) (w.setRow b vs.toArray)) : wpList Tryz.prog ops Q (o :: rest) a w := by
  refine wpList_store_part hgd _ x y ho b 0 hx vs hy hg (by rw [hl]; exact iBd) (by simp [hl, hu]) h1 ?_
  rw [spliced_all _ _ (by simp [hl, hu])]
  exact h
theorem resBd {fn : Func} {p : Tmp} (h : fn.results = #[.cell p 89]) (tmps : Array Value) (w : World) {b : Nat} (vs : List Value) (hl : vs.length = 11) (hp : tmps[p]? = some (.pointer (some ⟨b, 0, none⟩))) (hg : w.heap[b]? = some (.cells vs.toArray tBd (0, 0))) :
    (results fn tmps).run Tryz.prog w = .ok (.agg vs.toArray) w :=
  results_cell_one h tmps w b 0 _ vs hp hg Tryz.underlying89 rfl (by rw [hl]; exact iBd) (part_all _)
end
def Bp.l11 (B : Bp) : List Value := [.pointer (some ⟨B.pc, 0, none⟩), .pointer (some ⟨B.pb, 0, none⟩), .pointer (some ⟨B.pd, 0, none⟩), .pointer (some ⟨B.ps, 0, none⟩), .pointer (some ⟨B.pr, 0, none⟩), .pointer (some ⟨B.pl, 0, none⟩), .int .i64 B.n, .int .i64 B.c, .int .u32 B.div, .pointer (some ⟨B.bp, 0, none⟩), B.ev]
def z11 : List Value := [.pointer none, .pointer none, .pointer none, .pointer none, .pointer none, .pointer none, .int .i64 0, .int .i64 0, .int .u32 0, .pointer none, .slice none 0 0]
theorem l11_one (B : Bp) (he : B.ev.oneCell' = true) : ∀ v ∈ B.l11, v.oneCell' = true := by
  intro v hv
  simp only [Bp.l11, List.mem_cons, List.not_mem_nil, or_false] at hv
  rcases hv with rfl | rfl | rfl | rfl | rfl | rfl | rfl | rfl | rfl | rfl | rfl <;> first | rfl | exact he
theorem ev_one {w : World} {T : TypeId} {v : Value} {es : List (Int × Int)} (h : EvAt w T v es) : v.oneCell' = true := by
  rcases row_form h with ⟨rfl, _⟩ | ⟨g, cap, rfl, _⟩ <;> rfl
theorem bdNow (B : Bp) (x : Bx) (w : World) (H : BdAt w B x) :
    Calls Tryz.prog 38 #[.pointer (some ⟨B.b, 0, none⟩)] w fun e w' => e = .returned (.agg #[.pointer (some ⟨B.pc, 0, none⟩), .pointer (some ⟨B.pb, 0, none⟩), .pointer (some ⟨B.pd, 0, none⟩), .pointer (some ⟨B.ps, 0, none⟩), .pointer (some ⟨B.pr, 0, none⟩), .pointer (some ⟨B.pl, 0, none⟩), .int .i64 B.n, .int .i64 B.c, .int .u32 B.div, .pointer (some ⟨B.bp, 0, none⟩), B.ev]) ∧ Below w.heap.size w w' := by
  have hg : (w.alloc (.cells #[.pointer none, .pointer none, .pointer none, .pointer none, .pointer none, .pointer none, .int .i64 0, .int .i64 0, .int .u32 0, .pointer none, .slice none 0 0] 89)).heap[B.b]? = some (.cells B.l11.toArray tBd (0, 0)) := (blk_old w _ (lt_of_block H.cell)).trans H.cell
  have hz : (w.alloc (.cells #[.pointer none, .pointer none, .pointer none, .pointer none, .pointer none, .pointer none, .int .i64 0, .int .i64 0, .int .u32 0, .pointer none, .slice none 0 0] 89)).heap[w.heap.size]? = some (.cells z11.toArray tBd (0, 0)) := blk_new w _
  have h1 := l11_one B (ev_one H.ev)
  have hs := row_set B.l11.toArray hz
  have hb := below_setRow (trA (tr0 w) (.cells #[.pointer none, .pointer none, .pointer none, .pointer none, .pointer none, .pointer none, .int .i64 0, .int .i64 0, .int .u32 0, .pointer none, .slice none 0 0] 89)) B.l11.toArray (g := w.heap.size) (Nat.le_refl _)
  go_enter Tryz.func38, Tryz.ntmps38
  go_wp2_with (first | (refine loadBd rfl (.tmp 7) rfl rfl B.l11 rfl hg ?_) | (refine storeBd rfl (.tmp 2) (.tmp 8) rfl rfl B.l11 z11 rfl rfl h1 rfl hz ?_))
  exact bodyPost_ret (resBd rfl _ _ B.l11 rfl rfl hs) rfl ⟨rfl, hb⟩
theorem bdNowNil (w : World) :
    Calls Tryz.prog 38 #[.pointer none] w fun e w' => e = .returned (.agg #[.pointer none, .pointer none, .pointer none, .pointer none, .pointer none, .pointer none, .int .i64 0, .int .i64 0, .int .u32 0, .pointer none, .slice none 0 0]) ∧ Below w.heap.size w w' := by
  have hz : (w.alloc (.cells #[.pointer none, .pointer none, .pointer none, .pointer none, .pointer none, .pointer none, .int .i64 0, .int .i64 0, .int .u32 0, .pointer none, .slice none 0 0] 89)).heap[w.heap.size]? = some (.cells z11.toArray tBd (0, 0)) := blk_new w _
  have h1 : ∀ v ∈ z11, v.oneCell' = true := by decide
  have hs := row_set z11.toArray hz
  have hb := below_setRow (trA (tr0 w) (.cells #[.pointer none, .pointer none, .pointer none, .pointer none, .pointer none, .pointer none, .int .i64 0, .int .i64 0, .int .u32 0, .pointer none, .slice none 0 0] 89)) z11.toArray (g := w.heap.size) (Nat.le_refl _)
  go_enter Tryz.func38, Tryz.ntmps38
  go_wp2_with (refine storeBd rfl (.tmp 2) (.tmp 5) rfl rfl z11 z11 rfl rfl h1 rfl hz ?_)
  exact bodyPost_ret (resBd rfl _ _ z11 rfl rfl hs) rfl ⟨rfl, hb⟩
theorem fB0 (a0 a1 a2 a3 a4 a5 a6 a7 a8 a9 a10 : Value) (w : World) : (Instr.field 89 (.agg #[a0, a1, a2, a3, a4, a5, a6, a7, a8, a9, a10]) 0).run Tryz.prog w = .ok (.agg #[a0, a1, a2, a3, a4, a5]) w := by kernel_rfl
theorem fB1 (a0 a1 a2 a3 a4 a5 a6 a7 a8 a9 a10 : Value) (w : World) : (Instr.field 89 (.agg #[a0, a1, a2, a3, a4, a5, a6, a7, a8, a9, a10]) 1).run Tryz.prog w = .ok (.agg #[a6, a7, a8]) w := by kernel_rfl
theorem fB2 (a0 a1 a2 a3 a4 a5 a6 a7 a8 a9 a10 : Value) (w : World) : (Instr.field 89 (.agg #[a0, a1, a2, a3, a4, a5, a6, a7, a8, a9, a10]) 2).run Tryz.prog w = .ok a9 w := by kernel_rfl
theorem fB3 (a0 a1 a2 a3 a4 a5 a6 a7 a8 a9 a10 : Value) (w : World) : (Instr.field 89 (.agg #[a0, a1, a2, a3, a4, a5, a6, a7, a8, a9, a10]) 3).run Tryz.prog w = .ok a10 w := by kernel_rfl
theorem fD0 (a0 a1 a2 a3 a4 a5 : Value) (w : World) : (Instr.field 83 (.agg #[a0, a1, a2, a3, a4, a5]) 0).run Tryz.prog w = .ok a0 w := by kernel_rfl
theorem fD1 (a0 a1 a2 a3 a4 a5 : Value) (w : World) : (Instr.field 83 (.agg #[a0, a1, a2, a3, a4, a5]) 1).run Tryz.prog w = .ok a1 w := by kernel_rfl
theorem fD2 (a0 a1 a2 a3 a4 a5 : Value) (w : World) : (Instr.field 83 (.agg #[a0, a1, a2, a3, a4, a5]) 2).run Tryz.prog w = .ok a2 w := by kernel_rfl
theorem fD3 (a0 a1 a2 a3 a4 a5 : Value) (w : World) : (Instr.field 83 (.agg #[a0, a1, a2, a3, a4, a5]) 3).run Tryz.prog w = .ok a3 w := by kernel_rfl
theorem fD4 (a0 a1 a2 a3 a4 a5 : Value) (w : World) : (Instr.field 83 (.agg #[a0, a1, a2, a3, a4, a5]) 4).run Tryz.prog w = .ok a4 w := by kernel_rfl
theorem fD5 (a0 a1 a2 a3 a4 a5 : Value) (w : World) : (Instr.field 83 (.agg #[a0, a1, a2, a3, a4, a5]) 5).run Tryz.prog w = .ok a5 w := by kernel_rfl
theorem bdTime (B : Bp) (x : Bx) (w : World) (H : BdAt w B x) :
    Calls Tryz.prog 19 #[.pointer (some ⟨B.b, 0, none⟩)] w fun e w' => e = .returned (.int .u64 x.ti) ∧ Below w.heap.size w w' := by
  have hf0 := fB0
  have hf1 := fD0
  have HH := Lib.hid H
  have HN := Lib.hid (bdNow B x w H)
  clear H
  go_enter Tryz.func19, Tryz.ntmps19
  go_wp2_with fail
  refine (HN.out).mono ?_
  rintro e w1 ⟨rfl, hb1⟩
  have HH1 := Lib.hid (HH.out.below hb1)
  have HB1 := Lib.hid hb1
  clear hb1
  go_wp2_with fail
  refine (cTime _ _ _ _ B.pc B.mc _ HH1.out.dv.c).mono ?_
  rintro e w2 ⟨rfl, rfl⟩
  go_wp2_with fail
  go_ret
  exact ⟨rfl, HB1.out⟩
theorem bdCompare (B : Bp) (x : Bx) (h : Int) (w : World) (H : BdAt w B x) :
    Calls Tryz.prog 29 #[.pointer (some ⟨B.b, 0, none⟩), .int .i64 h] w fun e w' => e = .returned (.int .u64 (cCmp B.n x.D h)) ∧ Below w.heap.size w w' := by
  have hf0 := fB0
  have hf1 := fD0
  have HH := Lib.hid H
  have HN := Lib.hid (bdNow B x w H)
  clear H
  go_enter Tryz.func29, Tryz.ntmps29
  go_wp2_with fail
  refine (HN.out).mono ?_
  rintro e w1 ⟨rfl, hb1⟩
  have HH1 := Lib.hid (HH.out.below hb1)
  have HB1 := Lib.hid hb1
  clear hb1
  go_wp2_with fail
  refine (cCompare h _ _ _ _ B.pc B.mc _ HH1.out.dv.c).mono ?_
  rintro e w2 ⟨rfl, rfl⟩
  go_wp2_with fail
  go_ret
  exact ⟨rfl, HB1.out⟩
theorem bdLine (B : Bp) (x : Bx) (h : Int) (w : World) (H : BdAt w B x) :
    Calls Tryz.prog 30 #[.pointer (some ⟨B.b, 0, none⟩), .int .i64 h] w fun e w' => e = .returned (.bool (cLn x.ti B.n x.D h)) ∧ Below w.heap.size w w' := by
  have hf0 := fB0
  have hf1 := fD0
  have HH := Lib.hid H
  have HN := Lib.hid (bdNow B x w H)
  clear H
  go_enter Tryz.func30, Tryz.ntmps30
  go_wp2_with fail
  refine (HN.out).mono ?_
  rintro e w1 ⟨rfl, hb1⟩
  have HH1 := Lib.hid (HH.out.below hb1)
  have HB1 := Lib.hid hb1
  clear hb1
  go_wp2_with fail
  refine (cLine _ h _ _ _ B.pc B.mc _ HH1.out.dv.c).mono ?_
  rintro e w2 ⟨rfl, hb2⟩
  go_wp2_with fail
  go_ret
  exact ⟨rfl, tr HB1.out hb2⟩
theorem bdHigh (B : Bp) (x : Bx) (w : World) (H : BdAt w B x) :
    Calls Tryz.prog 20 #[.pointer (some ⟨B.b, 0, none⟩)] w fun e w' => e = .returned (.int .u32 (wires B.n B.c x)) ∧ Below w.heap.size w w' := by
  have hf0 := fB0
  have hf1 := fD5
  have HH := Lib.hid H
  have HN := Lib.hid (bdNow B x w H)
  clear H
  go_enter Tryz.func20, Tryz.ntmps20
  go_wp2_with fail
  refine (HN.out).mono ?_
  rintro e w1 ⟨rfl, hb1⟩
  have HH1 := Lib.hid (HH.out.below hb1)
  have HB1 := Lib.hid hb1
  clear hb1
  go_wp2_with fail
  refine (lHigh _ _ B.pl _ HH1.out.dv.l).mono ?_
  rintro e w2 ⟨rfl, rfl⟩
  go_wp2_with fail
  go_ret
  exact ⟨rfl, HB1.out⟩
theorem bdOut (B : Bp) (x : Bx) (w : World) (H : BdAt w B x) :
    Calls Tryz.prog 21 #[.pointer (some ⟨B.b, 0, none⟩)] w fun e w' => e = .returned (.bool (outB (wires B.n B.c x) x.msk)) ∧ Below w.heap.size w w' := by
  have hf0 := fB0
  have hf1 := fD5
  have HH := Lib.hid H
  have HN := Lib.hid (bdNow B x w H)
  clear H
  go_enter Tryz.func21, Tryz.ntmps21
  go_wp2_with fail
  refine (HN.out).mono ?_
  rintro e w1 ⟨rfl, hb1⟩
  have HH1 := Lib.hid (HH.out.below hb1)
  have HB1 := Lib.hid hb1
  clear hb1
  go_wp2_with fail
  refine (lOut _ _ B.pl _ HH1.out.dv.l (wires_bounds _ _ _).1 (wires_bounds _ _ _).2 HH1.out.ok.m0 HH1.out.ok.m1).mono ?_
  rintro e w2 ⟨rfl, hb2⟩
  go_wp2_with fail
  go_ret
  exact ⟨rfl, tr HB1.out hb2⟩
theorem bdTimeNil (w : World) :
    Calls Tryz.prog 19 #[.pointer none] w fun e w' => e = .returned (.int .u64 0) ∧ Below w.heap.size w w' := by
  have hf0 := fB0
  have hf1 := fD0
  go_enter Tryz.func19, Tryz.ntmps19
  go_wp2_with fail
  refine (bdNowNil w).mono ?_
  rintro e w1 ⟨rfl, hb1⟩
  go_wp2_with fail
  refine (cTimeNil _).mono ?_
  rintro e w2 ⟨rfl, rfl⟩
  go_wp2_with fail
  go_ret
  exact ⟨rfl, hb1⟩
theorem bdCompareNil (h : Int) (w : World) :
    Calls Tryz.prog 29 #[.pointer none, .int .i64 h] w fun e w' => e = .returned (.int .u64 18446744073709551615) ∧ Below w.heap.size w w' := by
  have hf0 := fB0
  have hf1 := fD0
  go_enter Tryz.func29, Tryz.ntmps29
  go_wp2_with fail
  refine (bdNowNil w).mono ?_
  rintro e w1 ⟨rfl, hb1⟩
  go_wp2_with fail
  refine (cCompareNil h _).mono ?_
  rintro e w2 ⟨rfl, rfl⟩
  go_wp2_with fail
  go_ret
  exact ⟨rfl, hb1⟩
theorem bdLineNil (h : Int) (w : World) :
    Calls Tryz.prog 30 #[.pointer none, .int .i64 h] w fun e w' => e = .returned (.bool false) ∧ Below w.heap.size w w' := by
  have hf0 := fB0
  have hf1 := fD0
  go_enter Tryz.func30, Tryz.ntmps30
  go_wp2_with fail
  refine (bdNowNil w).mono ?_
  rintro e w1 ⟨rfl, hb1⟩
  go_wp2_with fail
  refine (cLineNil h _).mono ?_
  rintro e w2 ⟨rfl, hb2⟩
  go_wp2_with fail
  go_ret
  exact ⟨rfl, tr hb1 hb2⟩
theorem bdHighNil (w : World) :
    Calls Tryz.prog 20 #[.pointer none] w fun e w' => e = .returned (.int .u32 0) ∧ Below w.heap.size w w' := by
  have hf0 := fB0
  have hf1 := fD5
  go_enter Tryz.func20, Tryz.ntmps20
  go_wp2_with fail
  refine (bdNowNil w).mono ?_
  rintro e w1 ⟨rfl, hb1⟩
  go_wp2_with fail
  refine (lHighNil _).mono ?_
  rintro e w2 ⟨rfl, rfl⟩
  go_wp2_with fail
  go_ret
  exact ⟨rfl, hb1⟩
theorem bdOutNil (w : World) :
    Calls Tryz.prog 21 #[.pointer none] w fun e w' => e = .returned (.bool false) ∧ Below w.heap.size w w' := by
  have hf0 := fB0
  have hf1 := fD5
  go_enter Tryz.func21, Tryz.ntmps21
  go_wp2_with fail
  refine (bdNowNil w).mono ?_
  rintro e w1 ⟨rfl, hb1⟩
  go_wp2_with fail
  refine (lOutNil _).mono ?_
  rintro e w2 ⟨rfl, hb2⟩
  go_wp2_with fail
  go_ret
  exact ⟨rfl, tr hb1 hb2⟩
theorem bdDogNil (w : World) :
    Calls Tryz.prog 22 #[.pointer none] w fun e w' => e = .returned (.pointer none) ∧ Below w.heap.size w w' := by
  have hf0 := fB0
  have hf1 := fD2
  go_enter Tryz.func22, Tryz.ntmps22
  go_wp2_with fail
  refine (bdNowNil w).mono ?_
  rintro e w1 ⟨rfl, hb1⟩
  go_wp2_with fail
  refine (dCopyNil _).mono ?_
  rintro e w2 ⟨rfl, rfl⟩
  go_wp2_with fail
  go_ret
  exact ⟨rfl, hb1⟩
theorem bdBankNil (w : World) :
    Calls Tryz.prog 26 #[.pointer none] w fun e w' => e = .returned (.pointer none) ∧ Below w.heap.size w w' := by
  have hf0 := fB0
  have hf1 := fD1
  go_enter Tryz.func26, Tryz.ntmps26
  go_wp2_with fail
  refine (bdNowNil w).mono ?_
  rintro e w1 ⟨rfl, hb1⟩
  go_wp2_with fail
  refine (bCopyNil _).mono ?_
  rintro e w2 ⟨rfl, rfl⟩
  go_wp2_with fail
  go_ret
  exact ⟨rfl, hb1⟩
theorem bdRtcNil (w : World) :
    Calls Tryz.prog 24 #[.pointer none] w fun e w' => e = .returned (.pointer none) ∧ Below w.heap.size w w' := by
  have hf0 := fB0
  have hf1 := fD4
  go_enter Tryz.func24, Tryz.ntmps24
  go_wp2_with fail
  refine (bdNowNil w).mono ?_
  rintro e w1 ⟨rfl, hb1⟩
  go_wp2_with fail
  refine (eCopyNil _).mono ?_
  rintro e w2 ⟨rfl, rfl⟩
  go_wp2_with fail
  go_ret
  exact ⟨rfl, hb1⟩
theorem bdDog (B : Bp) (x : Bx) (w : World) (H : BdAt w B x) :
    Calls Tryz.prog 22 #[.pointer (some ⟨B.b, 0, none⟩)] w fun e w' => ∃ p', e = .returned (.pointer (some ⟨p', 0, none⟩)) ∧ DAt w' p' x.wd ∧ Below w.heap.size w w' := by
  have hf0 := fB0
  have hf1 := fD2
  have HH := Lib.hid H
  have HN := Lib.hid (bdNow B x w H)
  clear H
  go_enter Tryz.func22, Tryz.ntmps22
  go_wp2_with fail
  refine (HN.out).mono ?_
  rintro e w1 ⟨rfl, hb1⟩
  have HH1 := Lib.hid (HH.out.below hb1)
  have HB1 := Lib.hid hb1
  clear hb1
  go_wp2_with fail
  refine (dCopy _ B.pd _ HH1.out.dv.d).mono ?_
  rintro e w2 ⟨rfl, a2, hb2⟩
  have HA := Lib.hid a2
  have HB2 := Lib.hid hb2
  clear a2 hb2
  go_wp2_with fail
  go_ret
  exact ⟨_, rfl, HA.out, tr HB1.out HB2.out⟩
theorem bdRtc (B : Bp) (x : Bx) (w : World) (H : BdAt w B x) :
    Calls Tryz.prog 24 #[.pointer (some ⟨B.b, 0, none⟩)] w fun e w' => ∃ p', e = .returned (.pointer (some ⟨p', 0, none⟩)) ∧ EAt w' p' tRtc x.rk ∧ Below w.heap.size w w' := by
  have hf0 := fB0
  have hf1 := fD4
  have HH := Lib.hid H
  have HN := Lib.hid (bdNow B x w H)
  clear H
  go_enter Tryz.func24, Tryz.ntmps24
  go_wp2_with fail
  refine (HN.out).mono ?_
  rintro e w1 ⟨rfl, hb1⟩
  have HH1 := Lib.hid (HH.out.below hb1)
  have HB1 := Lib.hid hb1
  clear hb1
  go_wp2_with fail
  refine (eCopy _ B.pr _ HH1.out.dv.r).mono ?_
  rintro e w2 ⟨rfl, a2, hb2⟩
  have HA := Lib.hid a2
  have HB2 := Lib.hid hb2
  clear a2 hb2
  go_wp2_with fail
  go_ret
  exact ⟨_, rfl, HA.out, tr HB1.out HB2.out⟩
theorem bdBank (B : Bp) (x : Bx) (w : World) (H : BdAt w B x) :
    Calls Tryz.prog 26 #[.pointer (some ⟨B.b, 0, none⟩)] w fun e w' => ∃ p' g' q', e = .returned (.pointer (some ⟨p', 0, none⟩)) ∧ BkAt w' p' g' B.c q' x.tm ∧ Below w.heap.size w w' := by
  have hf0 := fB0
  have hf1 := fD1
  have HH := Lib.hid H
  have HN := Lib.hid (bdNow B x w H)
  clear H
  go_enter Tryz.func26, Tryz.ntmps26
  go_wp2_with fail
  refine (HN.out).mono ?_
  rintro e w1 ⟨rfl, hb1⟩
  have HH1 := Lib.hid (HH.out.below hb1)
  have HB1 := Lib.hid hb1
  clear hb1
  go_wp2_with fail
  refine (bCopy HH1.out.dv.b).mono ?_
  rintro e w2 ⟨p', g', q', rfl, a2, hb2, _⟩
  have HA := Lib.hid a2
  have HB2 := Lib.hid hb2
  clear a2 hb2
  go_wp2_with fail
  go_ret
  exact ⟨_, _, _, rfl, HA.out, tr HB1.out HB2.out⟩
end Go.Proofs.YtcgmnjajodegmaaGreat.B
namespace Go.Proofs.YtcgmnjajodegmaaGreat.B
set_option linter.unusedVariables false
set_option linter.unusedSimpArgs false
set_option maxRecDepth 100000
open Go.ChangeShapes Go.WideShapes Go.RowKit Go.Sort Go.Shelf
theorem infoEv : (Tryz.prog.info? 64).map (fun i => (i.zero, i.size, i.bytes)) = some (some (.agg #[.int .u64 0, .int .i64 0]), 2, 16) := by kernel_rfl
theorem row_base {w : World} {b : Nat} {e : TypeId} {n m : Nat} {v : Value} {xs : List Value} (h : w.ownsRow b e n v m xs) : w.ownsRow 0 e n v m xs := by
  refine ⟨h.1, ?_⟩
  rcases h.2 with h2 | ⟨g, cap, cur, rfl, h3, h4⟩
  · exact .inl h2
  · exact .inr ⟨g, cap, cur, rfl, Nat.zero_le _, h4⟩
theorem evC_one (es : List (Int × Int)) : ∀ u ∈ es.flatMap evC, u.oneCell' = true := by
  intro u hu
  obtain ⟨x, _, hx⟩ := List.mem_flatMap.1 hu
  simp [evC] at hx
  rcases hx with rfl | rfl <;> rfl
theorem bdClone (v : Value) (es : List (Int × Int)) (w : World) (H : EvAt w tEv v es) (hl : es.length < 4294967296) :
    Calls Tryz.prog 57 #[v] w fun e w' => ∃ v', e = .returned v' ∧ EvAt w' tEv v' es ∧ Below w.heap.size w w' ∧ (∀ k, v'.ownBlock = some k → w.heap.size ≤ k) := by
  rcases row_form H with ⟨h1, h2⟩ | ⟨g, cap, h1, h2, h3, _⟩
  · subst h1
    have hes : es = [] := List.eq_nil_of_length_eq_zero h2
    subst hes
    have hcon := AnyE.slices_Clone_nil Tryz.cloneEv 0 0 w
    change Calls Tryz.prog 57 _ _ _ at hcon
    refine hcon.mono ?_
    rintro e w' ⟨rfl, rfl⟩
    exact ⟨_, rfl, ev_nil _ _, tr0 _, fun k hk => by cases hk⟩
  · subst h1
    obtain ⟨i0, hi, hz0, hz1, hz2⟩ := info_parts infoEv
    have hcon := AnyE.slices_Clone Tryz.cloneEv i0 (.agg #[.int .u64 0, .int .i64 0]) 2 16 hi hz0 hz1 hz2 rfl (by decide) Tryz.sizeOf64 g 0 es.length cap (es.flatMap evC) w (flat_len _ 2 evC_len es) (by unfold maxLen; omega) (by omega)
      (fun j u hj => by
        have hjl : j < es.length * 2 := by
          have := (List.getElem?_eq_some_iff.1 hj).1
          rwa [flat_len evC 2 evC_len] at this
        rw [Nat.zero_add, World.ownsRow.cellAt H j hjl]; exact hj)
      (evC_one es)
    change Calls Tryz.prog 57 _ _ _ at hcon
    refine hcon.mono ?_
    rintro e w' ⟨v', rfl, hown, hne, hb⟩
    exact ⟨_, rfl, row_base hown, hb, fun k hk => (World.ownsRow.lt hown k hk).1⟩
/-- All resets, told in a row of its own. -/
theorem bdResets (B : Bp) (x : Bx) (w : World) (H : BdAt w B x) (hl : x.es.length < 4294967296) :
    Calls Tryz.prog 18 #[.pointer (some ⟨B.b, 0, none⟩)] w fun e w' => ∃ v', e = .returned v' ∧ EvAt w' tEv v' x.es ∧ Below w.heap.size w w' ∧ (∀ k, v'.ownBlock = some k → w.heap.size ≤ k) := by
  have hf0 := fB3
  have HH := Lib.hid H
  have HN := Lib.hid (bdNow B x w H)
  clear H
  go_enter Tryz.func18, Tryz.ntmps18
  go_wp2_with fail
  refine (HN.out).mono ?_
  rintro e w1 ⟨rfl, hb1⟩
  have HH1 := Lib.hid (HH.out.below hb1)
  have HB1 := Lib.hid hb1
  clear hb1
  go_wp2_with fail
  refine (bdClone B.ev x.es _ HH1.out.ev hl).mono ?_
  rintro e w2 ⟨v', rfl, h2, hb2, hn⟩
  have HE := Lib.hid h2
  have HB2 := Lib.hid hb2
  have HN2 := Lib.hid hn
  clear h2 hb2 hn
  go_wp2_with fail
  go_ret
  exact ⟨_, rfl, HE.out, tr HB1.out HB2.out, fun k hk => Nat.le_trans HB1.out.size (HN2.out k hk)⟩
theorem bdResetsNil (w : World) :
    Calls Tryz.prog 18 #[.pointer none] w fun e w' => e = .returned (.slice none 0 0) ∧ Below w.heap.size w w' := by
  have hf0 := fB3
  go_enter Tryz.func18, Tryz.ntmps18
  go_wp2_with fail
  refine (bdNowNil w).mono ?_
  rintro e w1 ⟨rfl, hb1⟩
  go_wp2_with fail
  have hcon := AnyE.slices_Clone_nil Tryz.cloneEv 0 0 w1
  change Calls Tryz.prog 57 _ _ _ at hcon
  refine hcon.mono ?_
  rintro e w2 ⟨rfl, rfl⟩
  go_wp2_with fail
  go_ret
  exact ⟨rfl, hb1⟩
theorem bdConfig (B : Bp) (x : Bx) (w : World) (H : BdAt w B x) :
    Calls Tryz.prog 11 #[.pointer (some ⟨B.b, 0, none⟩)] w fun e w' => e = .returned (.agg #[.int .i64 B.n, .int .i64 B.c, .int .u32 B.div]) ∧ Below w.heap.size w w' := by
  have hf0 := fB1
  have HN := Lib.hid (fun w' (h : Below w.heap.size w w') => bdNow B x w' (H.below h))
  have hb0 := trA (tr0 w) (.cells #[.int .i64 0, .int .i64 0, .int .u32 0] 24)
  have hX := blk_new w (.cells #[.int .i64 0, .int .i64 0, .int .u32 0] 24)
  have HX := Lib.hid hX
  have HB0 := Lib.hid hb0
  clear H hb0 hX
  go_enter Tryz.func11, Tryz.ntmps11
  go_wp2_with fail
  refine (HN.out _ HB0.out).mono ?_
  rintro e w1 ⟨rfl, hb1⟩
  have hX1 := blk_below hb1 HX.out (by simp)
  have hbw := tr HB0.out hb1
  have hc0 := blk_free hX1 0
  have hc1 := blk_free hX1 1
  have hc2 := blk_free hX1 2
  have hl := lt_of_block hX1
  have d0 := blk_cell hX1 0
  have d1 := blk_cell hX1 1
  have d2 := blk_cell hX1 2
  simp only [List.getElem?_toArray, List.getElem?_cons_zero, List.getElem?_cons_succ] at d0 d1 d2
  have HX1 := Lib.hid hX1
  have HB1 := Lib.hid hbw
  clear hX1 hb1 hbw
  go_wp2_with fail
  have h1 := blk_set (blk_set (blk_set HX1.out 0 (.int .i64 B.n)) 1 (.int .i64 B.c)) 2 (.int .u32 B.div)
  refine bodyPost_ret (v := .agg #[.int .i64 B.n, .int .i64 B.c, .int .u32 B.div]) ?_ rfl ⟨rfl, ((HB1.out.setCell (p := ⟨w.heap.size, 0, none⟩) (Nat.le_refl _) _).setCell (p := ⟨w.heap.size, 1, none⟩) (Nat.le_refl _) _).setCell (p := ⟨w.heap.size, 2, none⟩) (Nat.le_refl _) _⟩
  exact results_cell_one rfl _ _ w.heap.size 0 _ [.int .i64 B.n, .int .i64 B.c, .int .u32 B.div] rfl h1 Tryz.underlying24 rfl (by kernel_rfl) (part_all _)
theorem bdConfigNil (w : World) :
    Calls Tryz.prog 11 #[.pointer none] w fun e w' => e = .returned (.agg #[.int .i64 0, .int .i64 0, .int .u32 0]) ∧ Below w.heap.size w w' := by
  have hf0 := fB1
  have hb0 := trA (tr0 w) (.cells #[.int .i64 0, .int .i64 0, .int .u32 0] 24)
  have hX := blk_new w (.cells #[.int .i64 0, .int .i64 0, .int .u32 0] 24)
  have HX := Lib.hid hX
  have HB0 := Lib.hid hb0
  clear hb0 hX
  go_enter Tryz.func11, Tryz.ntmps11
  go_wp2_with fail
  refine (bdNowNil _).mono ?_
  rintro e w1 ⟨rfl, hb1⟩
  have hX1 := blk_below hb1 HX.out (by simp)
  have hbw := tr HB0.out hb1
  have hc0 := blk_free hX1 0
  have hc1 := blk_free hX1 1
  have hc2 := blk_free hX1 2
  have hl := lt_of_block hX1
  have d0 := blk_cell hX1 0
  have d1 := blk_cell hX1 1
  have d2 := blk_cell hX1 2
  simp only [List.getElem?_toArray, List.getElem?_cons_zero, List.getElem?_cons_succ] at d0 d1 d2
  have HX1 := Lib.hid hX1
  have HB1 := Lib.hid hbw
  clear hX1 hb1 hbw
  go_wp2_with fail
  have h1 := blk_set (blk_set (blk_set HX1.out 0 (.int .i64 0)) 1 (.int .i64 0)) 2 (.int .u32 0)
  refine bodyPost_ret (v := .agg #[.int .i64 0, .int .i64 0, .int .u32 0]) ?_ rfl ⟨rfl, ((HB1.out.setCell (p := ⟨w.heap.size, 0, none⟩) (Nat.le_refl _) _).setCell (p := ⟨w.heap.size, 1, none⟩) (Nat.le_refl _) _).setCell (p := ⟨w.heap.size, 2, none⟩) (Nat.le_refl _) _⟩
  exact results_cell_one rfl _ _ w.heap.size 0 _ [.int .i64 0, .int .i64 0, .int .u32 0] rfl h1 Tryz.underlying24 rfl (by kernel_rfl) (part_all _)
end Go.Proofs.YtcgmnjajodegmaaGreat.B
