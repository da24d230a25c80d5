/- A file's Turn, by its contract. -/
import Derived.Test.YtfhggmiaablcnaaFileS
import Derived.Test.YtfhggmiaablcnaaRCodeT
import Derived.Deep.Cut
namespace Go.Proofs.Ytfhggmiaablcnaa.B
set_option linter.unusedVariables false
set_option linter.unusedSimpArgs false
open Go.ChangeShapes Go.WideShapes Go.RowKit Go.Sort
def Rg.turn (x : Rg) (u d : Int) : Rg := ⟨tnV x.v u d, x.s, x.r, x.c⟩
theorem Rg.turn_wf {x : Rg} (h : x.wf) (u d : Int) : (x.turn u d).wf := ⟨tnV_bounds _ _ _, h.2.1, h.2.2.1, h.2.2.2⟩
set_option maxHeartbeats 1600000 in
theorem fTurn1 (x : Rg) (u d : Int) (ub db : Nat) (w : World) (hx : x.wf) (u0 : 0 ≤ u) (u1 : u < 4294967296) (d0 : 0 ≤ d) (d1 : d < 4294967296) (hu : w.cell? ⟨ub, 0, none⟩ = some (.int .u32 u)) (hul : ub < w.heap.size) (hd : w.cell? ⟨db, 0, none⟩ = some (.int .u32 d)) (hdl : db < w.heap.size) :
    Calls Try.prog 41 #[x.val, .pointer (some ⟨ub, 0, none⟩), .pointer (some ⟨db, 0, none⟩)] w fun e w' => e = .returned (x.turn u d).val ∧ Below w.heap.size w w' := by
  obtain ⟨a, s, r, c⟩ := x
  obtain ⟨⟨a0, a1⟩, _, ⟨r0, r1⟩, ⟨c0, c1⟩⟩ := hx
  simp only at a0 a1 r0 r1 c0 c1
  unfold Rg.val Rg.turn
  have hX := b2_0 w (.cells #[.int .u32 a, .int .u32 s, .int .u32 r, .int .u32 c] 28 (0, 0)) (.cells #[.int .u32 0, .int .u32 0, .int .u32 0, .int .u32 0] 28 (0, 0))
  have hY := b2_1 w (.cells #[.int .u32 a, .int .u32 s, .int .u32 r, .int .u32 c] 28 (0, 0)) (.cells #[.int .u32 0, .int .u32 0, .int .u32 0, .int .u32 0] 28 (0, 0))
  have hB := trA (trA (tr0 w) (.cells #[.int .u32 a, .int .u32 s, .int .u32 r, .int .u32 c] 28 (0, 0))) (.cells #[.int .u32 0, .int .u32 0, .int .u32 0, .int .u32 0] 28 (0, 0))
  have hu2 := (hB.cell (p := ⟨ub, 0, none⟩) hul).trans hu
  have hd2 := (hB.cell (p := ⟨db, 0, none⟩) hdl).trans hd
  go_enter Try.func41, Try.ntmps41
  go_upto_region 1 with (fail)
  generalize ((w.alloc (.cells #[.int .u32 a, .int .u32 s, .int .u32 r, .int .u32 c] 28 (0, 0))).alloc (.cells #[.int .u32 0, .int .u32 0, .int .u32 0, .int .u32 0] 28 (0, 0))) = W at *
  have x0 := blk_cell hX 0
  have x1 := blk_cell hX 1
  have x2 := blk_cell hX 2
  have x3 := blk_cell hX 3
  simp only [List.getElem?_toArray, List.getElem?_cons_zero, List.getElem?_cons_succ] at x0 x1 x2 x3
  have hg := gcell
  have hf := gfrozen
  have hxl := blk_lt hX
  have hul2 : ub < W.heap.size := Nat.lt_of_lt_of_le hul hB.size
  have hdl2 : db < W.heap.size := Nat.lt_of_lt_of_le hdl hB.size
  have hbd := tnV_bounds a u 0
  have C1 := Lib.hid (fun w' => Raise a s r c u w' a0 a1 u0 u1)
  have C2 := Lib.hid (fun w' => by have := Fall (tnV a u 0) s r c d w' hbd.1 hbd.2 d0 d1; rw [turn_turn] at this; exact this)
  have HX := Lib.hid hX
  have HY := Lib.hid hY
  clear hX hY hbd hu hd
  refine wp_region_tail_below 5 (by kernel_rfl) (by kernel_rfl) ?_
  simp only [List.take_succ_cons, List.take_zero, List.drop_succ_cons, List.drop_zero]
  repeat (go_big_quiet_step (first
    | (go_at_call 43; exact Calls.regrown_of (C1.out _))
    | (go_at_call 42; exact Calls.regrown_of (C2.out _))))
  refine wpQuiet_nil ?_
  intro _ hw'
  obtain ⟨⟨dq, osq⟩, hw''⟩ := hw'
  subst hw''
  have hY2 := blk_below (below_regrown W dq osq) HY.out (blk_lt HY.out)
  have hB2 := trG hB dq osq
  clear hg hf x0 x1 x2 x3 hu2 hd2
  generalize grow (redrawn W dq) osq = W2 at *
  have f0 := blk_free hY2 0
  have f1 := blk_free hY2 1
  have f2 := blk_free hY2 2
  have f3 := blk_free hY2 3
  have y0 := blk_cell hY2 0
  have y1 := blk_cell hY2 1
  have y2 := blk_cell hY2 2
  have y3 := blk_cell hY2 3
  simp only [List.getElem?_toArray, List.getElem?_cons_zero, List.getElem?_cons_succ] at y0 y1 y2 y3
  have HY2 := Lib.hid hY2
  clear hY2
  go_wp2_with fail
  have hZ := blk_set (blk_set (blk_set (blk_set HY2.out 0 (.int .u32 (tnV a u d))) 1 (.int .u32 s)) 2 (.int .u32 r)) 3 (.int .u32 c)
  have hBZ : Below w.heap.size w ((((W2.setCell ⟨w.heap.size + 1, 0, none⟩ (.int .u32 (tnV a u d))).setCell ⟨w.heap.size + 1, 1, none⟩ (.int .u32 s)).setCell ⟨w.heap.size + 1, 2, none⟩ (.int .u32 r)).setCell ⟨w.heap.size + 1, 3, none⟩ (.int .u32 c)) :=
    (((hB2.setCell (Nat.le_add_right _ _) _).setCell (Nat.le_add_right _ _) _).setCell (Nat.le_add_right _ _) _).setCell (Nat.le_add_right _ _) _
  generalize ((((W2.setCell ⟨w.heap.size + 1, 0, none⟩ (.int .u32 (tnV a u d))).setCell ⟨w.heap.size + 1, 1, none⟩ (.int .u32 s)).setCell ⟨w.heap.size + 1, 2, none⟩ (.int .u32 r)).setCell ⟨w.heap.size + 1, 3, none⟩ (.int .u32 c)) = Y at hZ hBZ ⊢
  have z0 := blk_cell hZ 0
  have z1 := blk_cell hZ 1
  have z2 := blk_cell hZ 2
  have z3 := blk_cell hZ 3
  simp at z0 z1 z2 z3
  refine bodyPost_ret (v := .agg #[.int .u32 (tnV a u d), .int .u32 s, .int .u32 r, .int .u32 c]) ?_ rfl ⟨rfl, hBZ⟩
  simp [results, Try.results41, go_sem, z0, z1, z2, z3]
set_option maxHeartbeats 1600000 in
theorem fChangeT (off : Int) (x : Rg) (u d : Int) (ub db f m : Nat) (M : List (Int × Rg)) (w : World) (u0 : 0 ≤ u) (u1 : u < 4294967296) (d0 : 0 ≤ d) (d1 : d < 4294967296) (h0 : 0 ≤ off) (h1 : off < 4294967296) (h : (off % 4 != 0) = false) (hF : FileAt w f m M) (hin : (off, x) ∈ M)
    (hv : w.cell? ⟨ub, 0, none⟩ = some (.int .u32 u)) (hl : ub < w.heap.size) (hve : w.cell? ⟨db, 0, none⟩ = some (.int .u32 d)) (hle : db < w.heap.size) :
    Calls Try.prog 37 #[.pointer (some ⟨f, 0, none⟩), .int .u32 off, .func (.func 41) #[] #[.pointer (some ⟨ub, 0, none⟩), .pointer (some ⟨db, 0, none⟩)]] w
      fun e w' => e = .returned (.int .i64 0) ∧ FileAt w' f m (putF off (x.turn u d) M) ∧ Off (· = m) w w' := by
  have hfm : f ≠ m := fun e => by obtain ⟨_, _, hb, _⟩ := hF.map; rw [← e, hF.cell] at hb; cases hb
  have hxw : x.wf := hF.wf _ hin
  have hlf := hF.ltf
  go_enter Try.func37, Try.ntmps37
  go_wp2_with fail
  refine (fFind off x f m M _ h0 h hF hin).mono ?_
  rintro e w1 ⟨rfl, hb⟩
  have hF1 := hF.below hb
  have hc := blk_cell hF1.cell 0
  simp only [List.getElem?_toArray, List.getElem?_cons_zero] at hc
  have hlf1 := hF1.ltf
  have hv1 : w1.cell? ⟨ub, 0, none⟩ = some (.int .u32 u) := (hb.cell (p := ⟨ub, 0, none⟩) hl).trans hv
  have hl1 : ub < w1.heap.size := Nat.lt_of_lt_of_le hl hb.size
  have hve1 : w1.cell? ⟨db, 0, none⟩ = some (.int .u32 d) := (hb.cell (p := ⟨db, 0, none⟩) hle).trans hve
  have hle1 : db < w1.heap.size := Nat.lt_of_lt_of_le hle hb.size
  have HF := Lib.hid hF1
  have HB := Lib.hid hb
  clear hF hF1 hb hv hve
  obtain ⟨a, s, r, c⟩ := x
  unfold Rg.val
  have hcl : ∀ (dz : Nat) (os : Array Obj),
      Calls Try.prog 41 #[.agg #[.int .u32 a, .int .u32 s, .int .u32 r, .int .u32 c], .pointer (some ⟨ub, 0, none⟩), .pointer (some ⟨db, 0, none⟩)] (grow (redrawn (w1.alloc (.cells #[.int .u32 a, .int .u32 s, .int .u32 r, .int .u32 c] 28)) dz) os)
        fun e w' => e = .returned (.agg #[.int .u32 (tnV a u d), .int .u32 s, .int .u32 r, .int .u32 c]) ∧ Below (grow (redrawn (w1.alloc (.cells #[.int .u32 a, .int .u32 s, .int .u32 r, .int .u32 c] 28)) dz) os).heap.size (grow (redrawn (w1.alloc (.cells #[.int .u32 a, .int .u32 s, .int .u32 r, .int .u32 c] 28)) dz) os) w' := by
    intro dz os
    have hsz := (below_regrown (w1.alloc (.cells #[.int .u32 a, .int .u32 s, .int .u32 r, .int .u32 c] 28)) dz os).size
    refine fTurn1 ⟨a, s, r, c⟩ u d ub db _ hxw u0 u1 d0 d1 ?_ ?_ ?_ ?_
    · rw [gcell _ _ _ _ _ (by simp; omega)]; exact (World.cell?_alloc_old _ _ _ (by simp; omega)).trans hv1
    · exact Nat.lt_of_lt_of_le (by simp; omega) hsz
    · rw [gcell _ _ _ _ _ (by simp; omega)]; exact (World.cell?_alloc_old _ _ _ (by simp; omega)).trans hve1
    · exact Nat.lt_of_lt_of_le (by simp; omega) hsz
  go_wp2_with fail
  have hg := gcell
  have hf := gfrozen
  have hs1 : f < w1.heap.size + 1 := by omega
  refine wp_region_tail_below 9 (by kernel_rfl) (by kernel_rfl) ?_
  simp only [List.take_succ_cons, List.take_zero, List.drop_succ_cons, List.drop_zero]
  repeat (go_big_quiet_step (first
    | (go_at_call 41; exact Calls.regrown_of (hcl _ _))))
  refine wpQuiet_nil ?_
  intro _ hw'
  obtain ⟨⟨dq, osq⟩, hw''⟩ := hw'
  subst hw''
  have hb2 := trG (trA (tr0 w1) (.cells #[.int .u32 a, .int .u32 s, .int .u32 r, .int .u32 c] 28)) dq osq
  have hM2 := HF.out.map.below hb2 HF.out.ltm
  go_wp2_with (at_mapUpdate; refine wpList_put placeKey rfl _ _ _ _ rfl Try.underlying75 rfl hM2 off _ rfl rfl ⟨h0, h1⟩ ?_; intro w3 hM3 ho3)
  go_ret
  refine ⟨rfl, ?_, ((Off.ofBelow HB.out).next (Off.ofBelow hb2) (fun _ _ h => h)).trans ho3⟩
  exact HF.out.put (x := Rg.turn ⟨a, s, r, c⟩ u d) (Rg.turn_wf hxw u d) hfm hM3 ((ho3.block f (Nat.lt_of_lt_of_le hlf1 hb2.size) hfm).trans (hb2.block f hlf1))
end Go.Proofs.Ytfhggmiaablcnaa.B
