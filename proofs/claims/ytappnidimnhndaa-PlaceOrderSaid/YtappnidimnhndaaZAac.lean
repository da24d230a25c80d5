/- Several texts in one: Layer 18: the chapter's examples. Layer 18: a law's places in blocks of their own; PlaceOrder. Layer 18: PlaceSpans. Layer 18, package place: its seven functions. -/
import Derived.Test.YtappnidimnhndaaZAab
import Derived.Deep.Cut
import Derived.Deep.QuietTactic
import Derived.BigQuiet
import Derived.Lib.QuietBelow
import Derived.OwnWalk
namespace Go.Proofs.Ytappnidimnhndaa.B
set_option linter.unusedVariables false
set_option linter.unusedSimpArgs false
set_option maxRecDepth 100000
open Go.ChangeShapes Go.WideShapes Go.RowKit Go.Sort
theorem PlaceC.ofAt (H : PlaceC) {b d : Int} (hb : u64q b) (hd : u64q d) {x y : Int} (h : plc b d = (x, y)) (w : World) : Calls Try.prog 6 #[.int .u64 b, .int .u64 d] w fun e w' => e = .returned (.agg #[.int .i64 x, .int .i64 y]) ∧ Below w.heap.size w w' := by
 have := H.of w b d hb hd
 rw [h] at this
 exact this
set_option maxHeartbeats 1600000 in
theorem plKnown (H : PlaceC) (w : World) : Calls Try.prog 11 #[] w fun e w' => e = .returned (.bool true) ∧ Below w.heap.size w w' := by
 have S := Lib.hid (fun w => show Calls _ _ #[.int .u64 0, .agg #[.int .i64 1, .int .i64 1]] w fun e w' => e = .returned (.tuple #[.int .u64 64, .int .u64 127, .bool true]) ∧ Below w.heap.size w w' from H.span w 0 (1, 1) (by unfold u64q; decide) (by unfold kok; decide))
 have O1 := Lib.hid (H.ofAt (b := 0) (d := 0) (by unfold u64q; decide) (by unfold u64q; decide) (x := -1) (y := 0) (by decide))
 have O2 := Lib.hid (H.ofAt (b := 0) (d := 63) (by unfold u64q; decide) (by unfold u64q; decide) (x := 0) (y := 63) (by decide))
 have O3 := Lib.hid (H.ofAt (b := 0) (d := 64) (by unfold u64q; decide) (by unfold u64q; decide) (x := 1) (y := 1) (by decide))
 have O4 := Lib.hid (H.ofAt (b := 70) (d := 64) (by unfold u64q; decide) (by unfold u64q; decide) (x := -1) (y := 0) (by decide))
 have O5 := Lib.hid (H.ofAt (b := 0) (d := 281474976710656) (by unfold u64q; decide) (by unfold u64q; decide) (x := 8) (y := 0) (by decide))
 have L := Lib.hid (fun w => show Calls _ _ #[] w fun e w' => e = .returned (.agg #[.int .i64 (-1), .int .i64 0]) ∧ Below w.heap.size w w' from H.late w)
 have F := Lib.hid (fun w => show Calls _ _ #[] w fun e w' => e = .returned (.agg #[.int .i64 8, .int .i64 0]) ∧ Below w.heap.size w w' from H.far w)
 clear H
 have HB := Lib.hid (tr0 w)
 go_enter Try.func11, Try.ntmps11
 go_wp2_with (first
  | (go_at_call 7; refine (S.out _).mono ?_; rintro e w1 ⟨rfl, hb⟩; replace HB := Lib.hid (tr HB.out hb); clear hb S)
  | (go_at_call 6; refine (O1.out _).mono ?_; rintro e w1 ⟨rfl, hb⟩; replace HB := Lib.hid (tr HB.out hb); clear hb O1)
  | (go_at_call 6; refine (O2.out _).mono ?_; rintro e w1 ⟨rfl, hb⟩; replace HB := Lib.hid (tr HB.out hb); clear hb O2)
  | (go_at_call 6; refine (O3.out _).mono ?_; rintro e w1 ⟨rfl, hb⟩; replace HB := Lib.hid (tr HB.out hb); clear hb O3)
  | (go_at_call 6; refine (O4.out _).mono ?_; rintro e w1 ⟨rfl, hb⟩; replace HB := Lib.hid (tr HB.out hb); clear hb O4)
  | (go_at_call 6; refine (O5.out _).mono ?_; rintro e w1 ⟨rfl, hb⟩; replace HB := Lib.hid (tr HB.out hb); clear hb O5)
  | (go_at_call 9; refine (L.out _).mono ?_; rintro e w1 ⟨rfl, hb⟩; replace HB := Lib.hid (tr HB.out hb); clear hb)
  | (go_at_call 10; refine (F.out _).mono ?_; rintro e w1 ⟨rfl, hb⟩; replace HB := Lib.hid (tr HB.out hb); clear hb))
 go_ret
 exact ⟨rfl, HB.out⟩
theorem plc_kok (b d : Int) : kok (plc b d) := by
 have h := plc_right b d
 generalize plc b d = k at *
 obtain ⟨x, y⟩ := k
 unfold rgt at h
 rw [decide_eq_true_eq] at h
 unfold kok
 simp only [Prod.mk.injEq] at h ⊢
 omega
def PlB (T : TypeId) (p : Nat) (x y : Int) (w : World) : Prop := w.heap[p]? = some (.cells #[.int .i64 x, .int .i64 y] T (0, 0))
theorem PlB.cells {T : TypeId} {p : Nat} {x y : Int} {w : World} (h : PlB T p x y w) : w.cell? ⟨p, 0, none⟩ = some (.int .i64 x) ∧ w.cell? ⟨p, 1, none⟩ = some (.int .i64 y) ∧ p < w.heap.size ∧ w.frozen? ⟨p, 0, none⟩ = false ∧ w.frozen? ⟨p, 1, none⟩ = false :=
 ⟨by rw [blk_cell h]; rfl, by rw [blk_cell h]; rfl, lt_of_block h, blk_free h 0, blk_free h 1⟩
theorem PlB.below {T : TypeId} {p : Nat} {x y : Int} {w w' : World} (h : PlB T p x y w) (hb : Below w.heap.size w w') : PlB T p x y w' := blk_below hb h (lt_of_block h)
theorem PlB.put {T : TypeId} {p : Nat} {x y : Int} {w : World} (h : PlB T p x y w) (a b : Int) : PlB T p a b ((w.setCell ⟨p, 0, none⟩ (.int .i64 a)).setCell ⟨p, 1, none⟩ (.int .i64 b)) := blk_set (blk_set h 0 _) 1 _
theorem eqKF {x y a b : Int} {r : Bool} (h : decide (((x, y) : Pk) = (a, b)) = r) (w : World) : (binOp .eql tKy (.agg #[.int .i64 x, .int .i64 y]) (.agg #[.int .i64 a, .int .i64 b])).run Try.prog w = .ok (.bool r) w := by
 have := eqK (x, y) (a, b) w
 rw [h] at this
 exact this
set_option maxHeartbeats 1600000 in
theorem placeOrder (H : PlaceC) (b c d : Int) (w : World) (hb : u64q b) (hc : u64q c) (hd : u64q d) : Calls Try.prog 5 #[.int .u64 b, .int .u64 c, .int .u64 d] w fun e w' => e = .returned (.bool true) ∧ Below w.heap.size w w' := by
 have OC := H.of w b c hb hc
 have OD := Lib.hid (fun w => H.of w b d hb hd)
 have HO := fun h => order_law b c d h
 have HO2 := fun h => order_law b d c h
 have hk := plc_kok b c
 have hm := plc_kok b d
 unfold kyv kyl at OC OD
 generalize plc b c = k at *
 generalize plc b d = m at *
 obtain ⟨x, y⟩ := k
 obtain ⟨s, t⟩ := m
 have K := Lib.hid (plKnown H)
 have L := Lib.hid (fun (w : World) (x1 y1 x2 y2 : Int) (h1 : kok (x1, y1)) (h2 : kok (x2, y2)) => show Calls Try.prog 15 #[.agg #[.int .i64 x1, .int .i64 y1], .agg #[.int .i64 x2, .int .i64 y2]] w fun e w' => e = .returned (.bool (lss (x1, y1) (x2, y2))) ∧ Below w.heap.size w w' from H.less w _ _ h1 h2)
 clear H hb hc hd
 by_cases he : ((x, y) : Pk) = (s, t)
 all_goals
  go_enter Try.func5, Try.ntmps5
  go_upto_region 2 with (first
   | (go_at_call 6; refine OC.mono ?_; rintro e w1 ⟨rfl, hb⟩; clear OC)
   | (go_at_call 6; refine (OD.out _).mono ?_; rintro e w2 ⟨rfl, hb2⟩; clear OD))
 all_goals
  have HX := Lib.hid (show PlB tKy w2.heap.size x y ((w2.alloc (.cells #[.int .i64 x, .int .i64 y] tKy (0, 0))).alloc (.cells #[.int .i64 s, .int .i64 t] tKy (0, 0))) from b2_0 w2 _ _)
  have HM := Lib.hid (show PlB tKy (w2.heap.size + 1) s t ((w2.alloc (.cells #[.int .i64 x, .int .i64 y] tKy (0, 0))).alloc (.cells #[.int .i64 s, .int .i64 t] tKy (0, 0))) from b2_1 w2 _ _)
  have HB := Lib.hid (trA (trA (tr hb hb2) (.cells #[.int .i64 x, .int .i64 y] tKy (0, 0))) (.cells #[.int .i64 s, .int .i64 t] tKy (0, 0)))
  clear hb hb2
  generalize (w2.alloc (.cells #[.int .i64 x, .int .i64 y] tKy (0, 0))).alloc (.cells #[.int .i64 s, .int .i64 t] tKy (0, 0)) = W at *
  generalize w2.heap.size = p at *
  obtain ⟨c0, c1, c2, c3, c4⟩ := HX.out.cells
  obtain ⟨e0, e1, e2, e3, e4⟩ := HM.out.cells
  have gk := fun x1 y1 => gK x1 y1 (x, y) (s, t)
 · have eb := eqKF (decide_eq_true he)
   have hs : lss (x, y) (s, t) = false := by rw [he]; exact lss_self _
   have hs2 : lss (s, t) (x, y) = false := by rw [he]; exact lss_self _
   clear he HO HO2
   go_wp2_with (first
    | (go_at_call 11; refine (K.out _).mono ?_; rintro e w1 ⟨rfl, hb⟩; replace HX := Lib.hid (HX.out.below hb); replace HM := Lib.hid (HM.out.below hb); replace HB := Lib.hid (tr HB.out hb); clear hb; obtain ⟨c0, c1, c2, c3, c4⟩ := HX.out.cells; obtain ⟨e0, e1, e2, e3, e4⟩ := HM.out.cells)
    | (go_at_call 15; refine (L.out _ _ _ _ _ (by assumption) (by assumption)).mono ?_; rintro e w1 ⟨rfl, hb⟩; replace HX := Lib.hid (HX.out.below hb); replace HM := Lib.hid (HM.out.below hb); replace HB := Lib.hid (tr HB.out hb); clear hb; obtain ⟨c0, c1, c2, c3, c4⟩ := HX.out.cells; obtain ⟨e0, e1, e2, e3, e4⟩ := HM.out.cells))
   go_ret
   exact ⟨rfl, HB.out⟩
 · have eb := eqKF (decide_eq_false he)
   have hs := HO he
   have hs2 := HO2 (fun e => he e.symm)
   clear he HO HO2
   go_wp2_with (first
    | (go_at_call 11; refine (K.out _).mono ?_; rintro e w1 ⟨rfl, hb⟩; replace HX := Lib.hid (HX.out.below hb); replace HM := Lib.hid (HM.out.below hb); replace HB := Lib.hid (tr HB.out hb); clear hb; obtain ⟨c0, c1, c2, c3, c4⟩ := HX.out.cells; obtain ⟨e0, e1, e2, e3, e4⟩ := HM.out.cells)
    | (go_at_call 15; refine (L.out _ _ _ _ _ (by assumption) (by assumption)).mono ?_; rintro e w1 ⟨rfl, hb⟩; replace HX := Lib.hid (HX.out.below hb); replace HM := Lib.hid (HM.out.below hb); replace HB := Lib.hid (tr HB.out hb); clear hb; obtain ⟨c0, c1, c2, c3, c4⟩ := HX.out.cells; obtain ⟨e0, e1, e2, e3, e4⟩ := HM.out.cells))
   go_ret
   exact ⟨rfl, HB.out⟩
theorem qeqK {C : World → Prop} {o : Oper} {a : Act} {K : Act → Prop} (x y : Operand) (u : TypeId) (ho : o.op = .binOp .eql tKy x y u) {x1 y1 x2 y2 : Int} (hx : a.eval x = .agg #[.int .i64 x1, .int .i64 y1]) (hy : a.eval y = .agg #[.int .i64 x2, .int .i64 y2])
 {r : Bool} (hr : decide (((x1, y1) : Pk) = (x2, y2)) = r) (h : K (a.put o.dst (.bool r))) : o.quiet Try.prog a C K :=
 ⟨_, fun w hw => by
  subst hr
  unfold Oper.quietAt execOp
  simp only [ho, hx, hy, Sem.run_bind, gK x y (x1, y1) (x2, y2), eqK (x1, y1) (x2, y2), Result.andThen_ok]
  exact ⟨rfl, rfl⟩, h⟩
theorem qneK {C : World → Prop} {o : Oper} {a : Act} {K : Act → Prop} (x y : Operand) (u : TypeId) (ho : o.op = .binOp .neq tKy x y u) {x1 y1 x2 y2 : Int} (hx : a.eval x = .agg #[.int .i64 x1, .int .i64 y1]) (hy : a.eval y = .agg #[.int .i64 x2, .int .i64 y2])
 {r : Bool} (hr : decide (((x1, y1) : Pk) = (x2, y2)) = r) (h : K (a.put o.dst (.bool (!r)))) : o.quiet Try.prog a C K :=
 ⟨_, fun w hw => by
  subst hr
  unfold Oper.quietAt execOp
  simp only [ho, hx, hy, Sem.run_bind, gKn x y (x1, y1) (x2, y2), neK (x1, y1) (x2, y2), Result.andThen_ok]
  exact ⟨rfl, rfl⟩, h⟩
theorem qeqR {C : World → Prop} {o : Oper} {a : Act} {K : Act → Prop} (x y : Operand) (u : TypeId) (ho : o.op = .binOp .eql tKr x y u) {x1 y1 x2 y2 : Int} (hx : a.eval x = .agg #[.int .i64 x1, .int .i64 y1]) (hy : a.eval y = .agg #[.int .i64 x2, .int .i64 y2])
 {r : Bool} (hr : decide (((x1, y1) : Pk) = (x2, y2)) = r) (h : K (a.put o.dst (.bool r))) : o.quiet Try.prog a C K :=
 ⟨_, fun w hw => by
  subst hr
  unfold Oper.quietAt execOp
  simp only [ho, hx, hy, Sem.run_bind, gR x y (x1, y1) (x2, y2), eqR (x1, y1) (x2, y2), Result.andThen_ok]
  exact ⟨rfl, rfl⟩, h⟩
set_option maxHeartbeats 1600000 in
theorem placeSpans (H : PlaceC) (b d : Int) (w : World) (hb : u64q b) (hd : u64q d) : Calls Try.prog 4 #[.int .u64 b, .int .u64 d] w fun e w' => e = .returned (.bool true) ∧ Below w.heap.size w w' := by
 obtain ⟨X, Y, hs, hX, hY, h1, h2, h3, h4, h5, h6⟩ := span_law hb hd
 have O := Lib.hid (fun (w : World) (d' x' y' : Int) (hd' : u64q d') (he : plc b d' = (x', y')) => H.ofAt hb hd' he w)
 have S := Lib.hid (fun w => H.span w b _ hb (plc_kok b d))
 rw [hs] at S
 have K := Lib.hid (plKnown H)
 clear H hs
 unfold kyv kyl at S
 generalize hk : plc b d = k at *
 obtain ⟨x, y⟩ := k
 have h3 : plc b X = (x, y) := h3
 have N := Lib.hid (show decide (d < X) = false ∧ decide (Y < d) = false from ⟨decide_eq_false (by omega), decide_eq_false (by omega)⟩)
 go_enter Try.func4, Try.ntmps4
 go_upto_region 2 with (go_at_call 6; refine (O.out _ _ x y hd (by assumption)).mono ?_; rintro e w1 ⟨rfl, hw1⟩)
 have HX := Lib.hid (show PlB tKy w1.heap.size x y (w1.alloc (.cells #[.int .i64 x, .int .i64 y] tKy (0, 0))) from blk_new w1 _)
 have HB := Lib.hid (trA hw1 (.cells #[.int .i64 x, .int .i64 y] tKy (0, 0)))
 clear hw1
 generalize w1.alloc (.cells #[.int .i64 x, .int .i64 y] tKy (0, 0)) = W at *
 generalize w1.heap.size = p at *
 obtain ⟨c0, c1, c2, c3, c4⟩ := HX.out.cells
 go_upto_region 3 with (go_at_call 7; refine (S.out _).mono ?_; rintro e w2 ⟨rfl, hw2⟩)
 replace HX := Lib.hid (HX.out.below hw2)
 replace HB := Lib.hid (tr HB.out hw2)
 obtain ⟨c0, c1, c2, c3, c4⟩ := HX.out.cells
 clear hw2 S h1 h2
 obtain ⟨n1, n2⟩ := N.out
 have hgc := gcell
 have hgf := gfrozen
 refine wp_region_quiet_below (by kernel_rfl) (by kernel_rfl) ?_
 repeat (first
  | go_big_quiet_skip
  | (go_big_quiet_want; first
      | (refine qneK (.tmp 34) (.tmp 35) _ rfl rfl rfl (decide_eq_true rfl) ?_; go_simp; go_big_quiet_on)
      | (refine qneK (.tmp 41) (.tmp 42) _ rfl rfl rfl (decide_eq_true rfl) ?_; go_simp; go_big_quiet_on)
      | (go_big_quiet_op; first | go_big_quiet_on | go_big_quiet_call (first | (go_at_call 6; exact Calls.regrown_of (O.out _ _ _ _ (by assumption) (by assumption))))))
  | (refine wpQuiet_nil ?_))
 intro _ hw'
 obtain ⟨⟨dq, osq⟩, hw''⟩ := hw'
 subst hw''
 replace HX := Lib.hid (HX.out.below (below_regrown w2 dq osq))
 replace HB := Lib.hid (tr HB.out (below_regrown w2 dq osq))
 obtain ⟨c0, c1, c2, c3, c4⟩ := HX.out.cells
 clear n1 n2 N
 dsimp only at HX HB c0 c1 c2 c3 c4 ⊢
 generalize grow (redrawn w2 dq) osq = W3 at *
 have HD : decide (0 < X) = false ∨ ∃ x1 y1, decide (0 < X) = true ∧ u64q (X - 1) ∧ IntKind.u64.wrap (X - 1) = X - 1 ∧ plc b (X - 1) = (x1, y1) ∧ decide (((x1, y1) : Pk) = (x, y)) = false := by
  by_cases h0 : 0 < X
  · exact .inr ⟨_, _, decide_eq_true h0, ⟨by omega, by have := hX.2; omega⟩, by rw [IntKind.wrap_u64]; have := hX.2; omega, rfl, decide_eq_false (h5 h0)⟩
  · exact .inl (decide_eq_false h0)
 have HE : (Y == 18446744073709551615) = true ∨ ∃ x1 y1, (Y == 18446744073709551615) = false ∧ u64q (Y + 1) ∧ IntKind.u64.wrap (Y + 1) = Y + 1 ∧ plc b (Y + 1) = (x1, y1) ∧ decide (((x1, y1) : Pk) = (x, y)) = false := by
  have h7 := hY.1
  have h8 := hY.2
  by_cases h0 : Y = 18446744073709551615
  · exact .inl (by rw [h0]; rfl)
  · exact .inr ⟨_, _, beq_eq_false_iff_ne.2 h0, ⟨by omega, by omega⟩, by rw [IntKind.wrap_u64]; omega, rfl, decide_eq_false (h6 h0)⟩
 replace HE := Lib.hid HE
 clear h5 h6 h3 h4 hk hX hY
 rcases HD with d1 | ⟨x1, y1, d1, u1, q1, r1, d2⟩
 all_goals
  go_upto_region 5 with (fail)
  refine wp_region_quiet_below (by kernel_rfl) (by kernel_rfl) ?_
  repeat (first
   | go_big_quiet_skip
   | (go_big_quiet_want; first
       | (refine qeqK (.tmp 51) (.tmp 52) _ rfl rfl rfl (by assumption) ?_; go_simp; go_big_quiet_on)
       | (go_big_quiet_op; first | go_big_quiet_on | go_big_quiet_call (first | (go_at_call 6; exact Calls.regrown_of (O.out _ _ _ _ (by assumption) (by assumption))))))
   | (refine wpQuiet_nil ?_))
  intro _ hw'
  obtain ⟨⟨dq, osq⟩, hw''⟩ := hw'
  subst hw''
  replace HX := Lib.hid (HX.out.below (below_regrown W3 dq osq))
  replace HB := Lib.hid (tr HB.out (below_regrown W3 dq osq))
  obtain ⟨c0, c1, c2, c3, c4⟩ := HX.out.cells
  dsimp only at HX HB c0 c1 c2 c3 c4 ⊢
  generalize grow (redrawn W3 dq) osq = W4 at *
  obtain HE := HE.out
  rcases HE with e1 | ⟨x2, y2, e1, v1, p1, s1, e2⟩
 all_goals
  go_upto_region 7 with (fail)
  refine wp_region_quiet_below (by kernel_rfl) (by kernel_rfl) ?_
  repeat (first
   | go_big_quiet_skip
   | (go_big_quiet_want; first
       | (refine qneK (.tmp 63) (.tmp 64) _ rfl rfl rfl (by assumption) ?_; go_simp; go_big_quiet_on)
       | (go_big_quiet_op; first | go_big_quiet_on | go_big_quiet_call (first | (go_at_call 11; exact Calls.regrown_of (K.out _)) | (go_at_call 6; exact Calls.regrown_of (O.out _ _ _ _ (by assumption) (by assumption))))))
   | (refine wpQuiet_nil ?_))
  intro _ hw'
  obtain ⟨⟨dq, osq⟩, hw''⟩ := hw'
  subst hw''
  go_wp2_with fail
  go_ret
  exact ⟨rfl, tr HB.out (below_regrown W4 dq osq)⟩
theorem topB_in (a b : Int) (n : Nat) : -1 ≤ topB a b n ∧ topB a b n < n := by
 induction n with
 | zero => show -1 ≤ (-1 : Int) ∧ (-1 : Int) < ((0 : Nat) : Int); omega
 | succ n ih =>
   unfold topB
   split <;> omega
theorem top_in (a b : Int) : -1 ≤ top a b ∧ top a b < 9 := topB_in a b 9
theorem pLate (w : World) : Calls Try.prog 9 #[] w fun e w' => e = .returned (kyv (-1, 0)) ∧ Below w.heap.size w w' := by
 go_enter Try.func9, Try.ntmps9
 go_wp2_with fail
 refine bodyPost_ret (v := kyv (-1, 0)) ?_ rfl ⟨rfl, trA (tr0 w) _⟩
 exact results_cell_one rfl _ _ w.heap.size 0 _ [.int .i64 (-1), .int .i64 0] rfl (blk_new w _) Try.underlying24 rfl (by kernel_rfl) (part_all _)
theorem pFar (w : World) : Calls Try.prog 10 #[] w fun e w' => e = .returned (kyv (8, 0)) ∧ Below w.heap.size w w' := by
 go_enter Try.func10, Try.ntmps10
 go_wp2_with fail
 refine bodyPost_ret (v := kyv (8, 0)) ?_ rfl ⟨rfl, trA (tr0 w) _⟩
 exact results_cell_one rfl _ _ w.heap.size 0 _ [.int .i64 8, .int .i64 0] rfl (blk_new w _) Try.underlying24 rfl (by kernel_rfl) (part_all _)
theorem pOf (w : World) (b d : Int) (hb : u64q b) (hd : u64q d) : Calls Try.prog 6 #[.int .u64 b, .int .u64 d] w fun e w' => e = .returned (kyv (plc b d)) ∧ Below w.heap.size w w' := by
 obtain ⟨b0, b1⟩ := hb
 obtain ⟨d0, d1⟩ := hd
 obtain ⟨t0, t1⟩ := top_in b d
 have HK := Lib.hid (KAt.new tKy w)
 have HT := Lib.hid (fun w' => Top b d w' b0 b1 d0 d1)
 have HD := Lib.hid (fun w' => Digit d (top b d) w' d0 d1 (by omega) (by omega))
 by_cases h : d ≤ b
 · rw [plc_late h]
   have h2 : decide (d ≤ b) = true := decide_eq_true h
   clear h t0 t1 b0 b1 d0 d1
   go_enter Try.func6, Try.ntmps6
   go_wp2_with (first
    | (go_at_call 16; refine (HT.out _).mono ?_; rintro e w1 ⟨rfl, hb⟩; replace HK := Lib.hid (HK.out.below hb); clear hb; obtain ⟨c0, c1, f0, f1⟩ := HK.out.cells; have hlw := HK.out.2.2)
    | (go_at_call 17; refine (HD.out _).mono ?_; rintro e w2 ⟨rfl, rfl⟩))
   refine bodyPost_ret (v := kyv (-1, 0)) ?_ rfl ⟨rfl, HK.out.left _ _⟩
   exact results_cell_one rfl _ _ w.heap.size 0 _ [.int .i64 (-1), .int .i64 0] rfl (HK.out.put _ _) Try.underlying24 rfl (by kernel_rfl) (part_all _)
 have h2 : decide (d ≤ b) = false := decide_eq_false h
 by_cases h8 : lv b d = 8
 · rw [plc_far h h8]
   have e8 : top b d = 8 := by rw [top_lv (by omega), h8]; rfl
   rw [e8] at HD
   have HE := Lib.hid e8
   clear h t0 t1 b0 b1 d0 d1 h8 e8
   go_enter Try.func6, Try.ntmps6
   go_wp2_with (first
    | (go_at_call 16; refine (HT.out _).mono ?_; rw [HE.out]; rintro e w1 ⟨rfl, hb⟩; replace HK := Lib.hid (HK.out.below hb); clear hb; obtain ⟨c0, c1, f0, f1⟩ := HK.out.cells; have hlw := HK.out.2.2)
    | (go_at_call 17; refine (HD.out _).mono ?_; rintro e w2 ⟨rfl, rfl⟩))
   refine bodyPost_ret (v := kyv (8, 0)) ?_ rfl ⟨rfl, HK.out.left _ _⟩
   exact results_cell_one rfl _ _ w.heap.size 0 _ [.int .i64 8, .int .i64 0] rfl (HK.out.put _ _) Try.underlying24 rfl (by kernel_rfl) (part_all _)
 rw [dig_lv (by omega) h8]
 have h9 : (top b d == 8) = false := by
  rw [top_lv (by omega)]
  exact beq_eq_false_iff_ne.2 (by omega)
 clear h t0 t1 b0 b1 d0 d1 h8
 generalize top b d = t at *
 generalize dig d t = g at *
 go_enter Try.func6, Try.ntmps6
 go_wp2_with (first
  | (go_at_call 16; refine (HT.out _).mono ?_; rintro e w1 ⟨rfl, hb⟩; replace HK := Lib.hid (HK.out.below hb); clear hb; obtain ⟨c0, c1, f0, f1⟩ := HK.out.cells; have hlw := HK.out.2.2)
  | (go_at_call 17; refine (HD.out _).mono ?_; rintro e w2 ⟨rfl, rfl⟩))
 refine bodyPost_ret (v := kyv (t, g)) ?_ rfl ⟨rfl, HK.out.left _ _⟩
 exact results_cell_one rfl _ _ w.heap.size 0 _ [.int .i64 t, .int .i64 g] rfl (HK.out.put _ _) Try.underlying24 rfl (by kernel_rfl) (part_all _)
theorem pBounds (w : World) (b : Int) (k : Pk) (hb : u64q b) (hk : kok k) : Calls Try.prog 19 #[.int .u64 b, kyv k] w fun e w' => e = .returned (.tuple #[.int .u64 (bnd b k).1, .int .u64 (bnd b k).2]) ∧ Below w.heap.size w w' := by
 have hw := withd_u64 hb k
 obtain ⟨b0, b1⟩ := hb
 obtain ⟨k1, s⟩ := k
 obtain ⟨⟨p0, p1⟩, s0, s1⟩ := hk
 have p0 : -9223372036854775808 ≤ k1 := p0
 have p1 : k1 < 9223372036854775808 := p1
 have s0 : -9223372036854775808 ≤ s := s0
 have s1 : s < 9223372036854775808 := s1
 obtain ⟨w0, w1⟩ : u64q (withd b k1 s) := hw
 have L := Lib.hid (fun w => show Calls _ _ #[] w fun e w' => e = .returned (.agg #[.int .i64 (-1), .int .i64 0]) ∧ Below w.heap.size w w' from pLate w)
 have F := Lib.hid (fun w => show Calls _ _ #[] w fun e w' => e = .returned (.agg #[.int .i64 8, .int .i64 0]) ∧ Below w.heap.size w w' from pFar w)
 have HX := Lib.hid (show PlB tKy w.heap.size k1 s (w.alloc (.cells #[.int .i64 k1, .int .i64 s] tKy (0, 0))) from blk_new w _)
 have HB := Lib.hid (trA (tr0 w) (.cells #[.int .i64 k1, .int .i64 s] tKy (0, 0)))
 have HA := Lib.hid (fun w' => Add (bits BinOp.or IntKind.u64 b (mask 48)) 1 w' (by rw [far_or ⟨b0, b1⟩]; omega) (by rw [far_or ⟨b0, b1⟩]; omega) (by decide) (by decide))
 have HW := Lib.hid (fun w' => With b k1 s w' b0 b1 p0 p1 s0 s1)
 have g0 := fun x y => gK x y (k1, s) (-1, 0)
 have g1 := fun x y => gK x y (k1, s) (8, 0)
 show Calls Try.prog 19 #[.int .u64 b, .agg #[.int .i64 k1, .int .i64 s]] w fun e w' => e = .returned (.tuple #[.int .u64 (bnd b (k1, s)).1, .int .u64 (bnd b (k1, s)).2]) ∧ Below w.heap.size w w'
 by_cases hL : ((k1, s) : Pk) = (-1, 0)
 · have e0 := eqKF (decide_eq_true hL)
   have e : bnd b (k1, s) = (0, b) := by unfold bnd; rw [if_pos hL]
   rw [e]
   clear hL e w0 w1
   go_enter Try.func19, Try.ntmps19
   go_wp2_with (first
    | (go_at_call 9; refine (L.out _).mono ?_; rintro e w1 ⟨rfl, hb⟩; replace HB := Lib.hid (tr HB.out hb); clear hb L))
   go_ret2
   exact ⟨rfl, HB.out⟩
 have e0 := eqKF (decide_eq_false hL)
 by_cases hF : ((k1, s) : Pk) = (8, 0)
 · have e1 := eqKF (decide_eq_true hF)
   have e : bnd b (k1, s) = (addS (bits BinOp.or IntKind.u64 b (mask 48)) 1, 18446744073709551615) := by unfold bnd; rw [if_neg hL, if_pos hF]
   rw [e]
   clear hL hF e w0 w1
   go_enter Try.func19, Try.ntmps19
   go_wp2_with (first
    | (go_at_call 9; refine (L.out _).mono ?_; rintro e w1 ⟨rfl, hb⟩; replace HB := Lib.hid (tr HB.out hb); clear hb L)
    | (go_at_call 10; refine (F.out _).mono ?_; rintro e w2 ⟨rfl, hb⟩; replace HB := Lib.hid (tr HB.out hb); clear hb F)
    | (go_at_call 23; refine (Mask 48 _ (by decide) (by decide)).mono ?_; rintro e w3 ⟨rfl, rfl⟩)
    | (go_at_call 22; refine (HA.out _).mono ?_; rintro e w3 ⟨rfl, rfl⟩))
   go_ret2
   exact ⟨rfl, HB.out⟩
 have e1 := eqKF (decide_eq_false hF)
 have e : bnd b (k1, s) = (withd b k1 s, bits BinOp.or IntKind.u64 (withd b k1 s) (mask (Go.RowKit.wrap64 (6 * k1)))) := by unfold bnd; rw [if_neg hL, if_neg hF]
 rw [e]
 have HM := Lib.hid (fun w' => Mask (Go.RowKit.wrap64 (6 * k1)) w' (by unfold Go.RowKit.wrap64; omega) (by unfold Go.RowKit.wrap64; omega))
 clear hL hF e w0 w1
 go_enter Try.func19, Try.ntmps19
 go_wp2_with (first
  | (go_at_call 9; refine (L.out _).mono ?_; rintro e w1 ⟨rfl, hb⟩; replace HB := Lib.hid (tr HB.out hb); replace HX := Lib.hid (HX.out.below hb); clear hb L)
  | (go_at_call 10; refine (F.out _).mono ?_; rintro e w2 ⟨rfl, hb⟩; replace HB := Lib.hid (tr HB.out hb); replace HX := Lib.hid (HX.out.below hb); clear hb F; obtain ⟨c0, c1, c2, c3, c4⟩ := HX.out.cells)
  | (go_at_call 24; refine (HW.out _).mono ?_; rintro e w3 ⟨rfl, rfl⟩)
  | (go_at_call 23; refine (HM.out _).mono ?_; rintro e w3 ⟨rfl, rfl⟩))
 go_ret2
 exact ⟨rfl, HB.out⟩
theorem pHas (w : World) (b d k1 s : Int) (p q : Nat) (hb : u64q b) (hd : u64q d) (hp : w.heap[p]? = some (.cells #[.int .u64 b] 22 (0, 0))) (hq : PlB tKy q k1 s w) : Calls Try.prog 18 #[.int .u64 d, .pointer (some ⟨p, 0, none⟩), .pointer (some ⟨q, 0, none⟩)] w fun e w' => e = .returned (.bool (decide (plc b d = (k1, s)))) ∧ Below w.heap.size w w' := by
 have O := Lib.hid (fun w => pOf w b d hb hd)
 unfold kyv kyl at O
 generalize plc b d = m at *
 obtain ⟨x, y⟩ := m
 have O := Lib.hid (fun w => show Calls _ _ _ w fun e w' => e = .returned (.agg #[.int .i64 x, .int .i64 y]) ∧ Below w.heap.size w w' from O.out w)
 obtain ⟨c0, c1, c2, c3, c4⟩ := hq.cells
 have d0 : w.cell? ⟨p, 0, none⟩ = some (.int .u64 b) := by rw [blk_cell hp]; rfl
 have d1 := lt_of_block hp
 have d2 := blk_free hp 0
 have hgc := gcell
 have hgf := gfrozen
 have HP := Lib.hid hp
 clear hp hq hb hd
 go_enter Try.func18, Try.ntmps18
 go_upto_region 1 with (fail)
 refine wp_region_quiet_below (by kernel_rfl) (by kernel_rfl) ?_
 repeat (first
  | go_big_quiet_skip
  | (go_big_quiet_want; first
      | (refine qeqK (.tmp 7) (.tmp 8) _ rfl rfl rfl rfl ?_; go_simp; go_big_quiet_on)
      | (go_big_quiet_op; first | go_big_quiet_on | go_big_quiet_call (first | (go_at_call 6; exact Calls.regrown_of (O.out _)))))
  | (refine wpQuiet_nil ?_))
 intro _ hw'
 obtain ⟨⟨dq, osq⟩, hw''⟩ := hw'
 subst hw''
 go_wp2_with fail
 go_ret
 exact ⟨rfl, below_regrown w dq osq⟩
theorem pSpan (w : World) (b : Int) (k : Pk) (hb : u64q b) (hk : kok k) : Calls Try.prog 7 #[.int .u64 b, kyv k] w fun e w' => e = .returned (.tuple #[.int .u64 (spn b k).1, .int .u64 (spn b k).2.1, .bool (spn b k).2.2]) ∧ Below w.heap.size w w' := by
 have hs := bnd_spn hb k
 have B := Lib.hid (fun w => pBounds w b k hb hk)
 have hu := bnd_u64 hb k
 obtain ⟨k1, s⟩ := k
 have HX := Lib.hid (show PlB tKy (w.heap.size + 1) k1 s ((w.alloc (.cells #[.int .u64 b] 22 (0, 0))).alloc (.cells #[.int .i64 k1, .int .i64 s] tKy (0, 0))) from b2_1 w _ _)
 have HP := Lib.hid (show ((w.alloc (.cells #[.int .u64 b] 22 (0, 0))).alloc (.cells #[.int .i64 k1, .int .i64 s] tKy (0, 0))).heap[w.heap.size]? = some (.cells #[.int .u64 b] 22 (0, 0)) from b2_0 w _ _)
 have HB := Lib.hid (trA (trA (tr0 w) (.cells #[.int .u64 b] 22 (0, 0))) (.cells #[.int .i64 k1, .int .i64 s] tKy (0, 0)))
 rw [hs]
 generalize hbn : bnd b (k1, s) = xy at *
 obtain ⟨x, y⟩ := xy
 have B := Lib.hid (fun w => show Calls Try.prog 19 #[.int .u64 b, .agg #[.int .i64 k1, .int .i64 s]] w fun e w' => e = .returned (.tuple #[.int .u64 x, .int .u64 y]) ∧ Below w.heap.size w w' from B.out w)
 have H := Lib.hid (fun w p q hp hq => pHas w b x k1 s p q hb hu hp hq)
 show Calls Try.prog 7 #[.int .u64 b, .agg #[.int .i64 k1, .int .i64 s]] w _
 clear hs hu hbn hb hk
 show Calls Try.prog 7 _ w fun e w' => e = .returned (.tuple #[.int .u64 (if plc b x = (k1, s) then (x, y, true) else (0, 0, false)).1, .int .u64 (if plc b x = (k1, s) then (x, y, true) else (0, 0, false)).2.1, .bool (if plc b x = (k1, s) then (x, y, true) else (0, 0, false)).2.2]) ∧ Below w.heap.size w w'
 by_cases he : plc b x = (k1, s)
 · rw [if_pos he]
   rw [decide_eq_true he] at H
   clear he
   go_enter Try.func7, Try.ntmps7
   go_wp2_with (first
    | (go_at_call 19; refine (B.out _).mono ?_; rintro e w1 ⟨rfl, hb⟩; replace HB := Lib.hid (tr HB.out hb); replace HX := Lib.hid (HX.out.below hb); replace HP := Lib.hid (blk_below hb HP.out (lt_of_block HP.out)); clear hb)
    | (go_at_call 18; refine (H.out _ _ _ HP.out HX.out).mono ?_; rintro e w2 ⟨rfl, hb⟩; replace HB := Lib.hid (tr HB.out hb); clear hb))
   go_ret3
   exact ⟨rfl, HB.out⟩
 · rw [if_neg he]
   rw [decide_eq_false he] at H
   clear he
   go_enter Try.func7, Try.ntmps7
   go_wp2_with (first
    | (go_at_call 19; refine (B.out _).mono ?_; rintro e w1 ⟨rfl, hb⟩; replace HB := Lib.hid (tr HB.out hb); replace HX := Lib.hid (HX.out.below hb); replace HP := Lib.hid (blk_below hb HP.out (lt_of_block HP.out)); clear hb)
    | (go_at_call 18; refine (H.out _ _ _ HP.out HX.out).mono ?_; rintro e w2 ⟨rfl, hb⟩; replace HB := Lib.hid (tr HB.out hb); clear hb))
   go_ret3
   exact ⟨rfl, HB.out⟩
theorem pRight (w : World) (k : Pk) (hk : kok k) : Calls Try.prog 13 #[kyv k] w fun e w' => e = .returned (.bool (rgt k)) ∧ Below w.heap.size w w' := by
 have S := Lib.hid (fun w => pSpan w 0 k ⟨by decide, by decide⟩ hk)
 rw [← rgt_spn]
 obtain ⟨k1, s⟩ := k
 generalize spn 0 (k1, s) = z at *
 obtain ⟨x, y, r⟩ := z
 have S := Lib.hid (fun w => show Calls Try.prog 7 #[.int .u64 0, .agg #[.int .i64 k1, .int .i64 s]] w fun e w' => e = .returned (.tuple #[.int .u64 x, .int .u64 y, .bool r]) ∧ Below w.heap.size w w' from S.out w)
 have HB := Lib.hid (trA (tr0 w) (.cells #[.int .i64 k1, .int .i64 s] tKy (0, 0)))
 clear hk
 show Calls Try.prog 13 #[.agg #[.int .i64 k1, .int .i64 s]] w fun e w' => e = .returned (.bool r) ∧ Below w.heap.size w w'
 go_enter Try.func13, Try.ntmps13
 go_wp2_with (go_at_call 7; refine (S.out _).mono ?_; rintro e w1 ⟨rfl, hb⟩; replace HB := Lib.hid (tr HB.out hb); clear hb)
 go_ret
 exact ⟨rfl, HB.out⟩
theorem pTouched (w : World) (b t : Int) (k : Pk) (hb : u64q b) (ht : u64q t) (hk : kok k) : Calls Try.prog 14 #[.int .u64 b, .int .u64 t, kyv k] w fun e w' => e = .returned (.bool (tch b t k)) ∧ Below w.heap.size w w' := by
 have S := Lib.hid (fun w => pSpan w b k hb hk)
 unfold tch
 obtain ⟨k1, s⟩ := k
 generalize spn b (k1, s) = z at *
 obtain ⟨x, y, r⟩ := z
 have S := Lib.hid (fun w => show Calls Try.prog 7 #[.int .u64 b, .agg #[.int .i64 k1, .int .i64 s]] w fun e w' => e = .returned (.tuple #[.int .u64 x, .int .u64 y, .bool r]) ∧ Below w.heap.size w w' from S.out w)
 have HB := Lib.hid (trA (tr0 w) (.cells #[.int .i64 k1, .int .i64 s] tKy (0, 0)))
 clear hk hb ht
 show Calls Try.prog 14 #[.int .u64 b, .int .u64 t, .agg #[.int .i64 k1, .int .i64 s]] w fun e w' => e = .returned (.bool (r && decide (x ≤ t))) ∧ Below w.heap.size w w'
 cases r
 all_goals
  go_enter Try.func14, Try.ntmps14
  go_wp2_with (go_at_call 7; refine (S.out _).mono ?_; rintro e w1 ⟨rfl, hb⟩; replace HB := Lib.hid (tr HB.out hb); clear hb)
  go_ret
  exact ⟨by simp, HB.out⟩
theorem pLess (w : World) (a b : Pk) (ha : kok a) (hb : kok b) : Calls Try.prog 15 #[kyv a, kyv b] w fun e w' => e = .returned (.bool (lss a b)) ∧ Below w.heap.size w w' := by
 obtain ⟨a1, a2⟩ := a
 obtain ⟨b1, b2⟩ := b
 have HB := Lib.hid (trA (trA (tr0 w) (.cells #[.int .i64 a1, .int .i64 a2] tKy (0, 0))) (.cells #[.int .i64 b1, .int .i64 b2] tKy (0, 0)))
 clear ha hb
 have he : lss (a1, a2) (b1, b2) = if a1 = b1 then decide (a2 < b2) else decide (a1 < b1) := by
  unfold lss
  split
  · next h => refine decide_eq_decide.2 (show a1 < b1 ∨ a1 = b1 ∧ a2 < b2 ↔ a2 < b2 from ?_); omega
  · next h => refine decide_eq_decide.2 (show a1 < b1 ∨ a1 = b1 ∧ a2 < b2 ↔ a1 < b1 from ?_); omega
 rw [he]
 show Calls Try.prog 15 #[.agg #[.int .i64 a1, .int .i64 a2], .agg #[.int .i64 b1, .int .i64 b2]] w _
 by_cases h : a1 = b1
 · rw [if_pos h]
   have h1 : (a1 != b1) = false := by rw [h]; simp
   clear h he
   go_enter Try.func15, Try.ntmps15
   go_wp2_with fail
   go_ret
   exact ⟨rfl, HB.out⟩
 · rw [if_neg h]
   have h1 : (a1 != b1) = true := by simpa using h
   clear h he
   go_enter Try.func15, Try.ntmps15
   go_wp2_with fail
   go_ret
   exact ⟨rfl, HB.out⟩
theorem placeC : PlaceC := ⟨pOf, pRight, pLess, pSpan, pTouched, pLate, pFar⟩
end Go.Proofs.Ytappnidimnhndaa.B
