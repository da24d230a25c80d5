/- What the words' expired returns. -/
import Derived.Test.YtijjapmdkalfaaaNCell
namespace Go.Proofs.Ytijjapmdkalfaaa.B
set_option linter.unusedVariables false
set_option linter.unusedSimpArgs false
open Go.ChangeShapes Go.WideShapes Go.RowKit Go.Sort
theorem nExpiredA (ld v c s ph c' : Int) (w : World) (l0 : 0 ≤ ld) (l1 : ld < 4294967296) (c0 : 0 ≤ c) (c1 : c < 4294967296) (re : Bool) (hre : bit c 1 = re) (hx : re = false) (hput : put c 0 1 0 = c') :
    Calls Try.prog 49 #[.agg (w5 ld v c s ph).toArray] w fun e w' => e = .returned (.agg (w5 ld 0 c' 1 0).toArray) ∧ Below w.heap.size w w' := by
  subst hx
  have hfl := Lib.hid (fun w => by have := nFlag ld v c s ph 1 1 w c0 c1 rfl (by omega); rw [hre] at this; exact this)
  have hpt := Lib.hid (fun w => by have := Put c 0 1 0 w c0 c1 (by omega) (by omega) (by omega) (by omega); rw [hput] at this; exact this)
  clear hre hput
  have hB := trA (trA (tr0 w) (.cells (w5 ld v c s ph).toArray 77 (0, 0))) (.cells (w5 0 0 0 0 0).toArray 77 (0, 0))
  have X : A5 _ _ _ ld v c s ph := b2_0 w (.cells (w5 ld v c s ph).toArray 77 (0, 0)) (.cells (w5 0 0 0 0 0).toArray 77 (0, 0))
  have Y : A5 _ _ _ 0 0 0 0 0 := b2_1 w (.cells (w5 ld v c s ph).toArray 77 (0, 0)) (.cells (w5 0 0 0 0 0).toArray 77 (0, 0))
  go_enter Try.func49, Try.ntmps49
  go_upto_region 1 with (fail)
  rw [zW_eq]
  generalize ((w.alloc (.cells (w5 ld v c s ph).toArray 77 (0, 0))).alloc (.cells (w5 0 0 0 0 0).toArray 77 (0, 0))) = W at *
  have x0 := X.c0
  go_wp2_with (refine loadW rfl (.tmp 1) rfl rfl X ?_)
  refine (hfl.out _).mono ?_
  rintro e w1 ⟨rfl, hb⟩
  have X1 := X.below hb
  have Y1 := Y.below hb
  have hB1 := tr hB hb
  clear X Y hB hb x0 W
  have X := X1
  have Y := Y1
  have hB := hB1
  clear X1 Y1 hB1
  generalize w1 = W at *
  have x1 := X.c1
  have x2 := X.c2
  have x3 := X.c3
  have x4 := X.c4
  have f1 := X.free 1
  have f2 := X.free 2
  have f3 := X.free 3
  have f4 := X.free 4
  go_upto_region 7 with (first | (go_at_call 54; refine (hpt.out _).mono ?_; rintro e w2 ⟨rfl, rfl⟩))
  have X2 := (((X.s2 c').s1 0).s3 1).s4 0
  have Y2 := (((Y.other w.heap.size 2 (.int .u32 c') (by omega)).other w.heap.size 1 (.int .u32 0) (by omega)).other w.heap.size 3 (.int .u32 1) (by omega)).other w.heap.size 4 (.int .u64 0) (by omega)
  have hB2 := (((hB.setCell (p := ⟨w.heap.size, 2, none⟩) (by simp) (.int .u32 c')).setCell (p := ⟨w.heap.size, 1, none⟩) (by simp) (.int .u32 0)).setCell (p := ⟨w.heap.size, 3, none⟩) (by simp) (.int .u32 1)).setCell (p := ⟨w.heap.size, 4, none⟩) (by simp) (.int .u64 0)
  clear X Y hB x1 x2 x3 x4 f1 f2 f3 f4
  generalize ((((W.setCell ⟨w.heap.size, 2, none⟩ (.int .u32 c')).setCell ⟨w.heap.size, 1, none⟩ (.int .u32 0)).setCell ⟨w.heap.size, 3, none⟩ (.int .u32 1)).setCell ⟨w.heap.size, 4, none⟩ (.int .u64 0)) = W2 at *
  have Y3 := A5.row Y2 ld 0 c' 1 0
  have hB3 := below_setRow hB2 (w5 ld 0 c' 1 0).toArray (g := w.heap.size + 1) (by omega)
  go_wp2_with (first | (refine loadW rfl (.tmp 1) rfl rfl X2 ?_) | (refine storeW rfl (.tmp 2) (.tmp 26) rfl rfl rfl Y2 ?_))
  refine bodyPost_ret (resW rfl _ _ rfl Y3) rfl ⟨rfl, hB3⟩
theorem nExpiredB (ld v c s ph c' : Int) (w : World) (l0 : 0 ≤ ld) (l1 : ld < 4294967296) (c0 : 0 ≤ c) (c1 : c < 4294967296) (re : Bool) (hre : bit c 1 = re) (hx : re = true ∧ ld = 0) (hput : put c 0 1 0 = c') :
    Calls Try.prog 49 #[.agg (w5 ld v c s ph).toArray] w fun e w' => e = .returned (.agg (w5 ld 0 c' 1 0).toArray) ∧ Below w.heap.size w w' := by
  obtain ⟨rfl, rfl⟩ := hx
  have hfl := Lib.hid (fun w => by have := nFlag 0 v c s ph 1 1 w c0 c1 rfl (by omega); rw [hre] at this; exact this)
  have hpt := Lib.hid (fun w => by have := Put c 0 1 0 w c0 c1 (by omega) (by omega) (by omega) (by omega); rw [hput] at this; exact this)
  clear hre hput
  have hB := trA (trA (tr0 w) (.cells (w5 0 v c s ph).toArray 77 (0, 0))) (.cells (w5 0 0 0 0 0).toArray 77 (0, 0))
  have X : A5 _ _ _ 0 v c s ph := b2_0 w (.cells (w5 0 v c s ph).toArray 77 (0, 0)) (.cells (w5 0 0 0 0 0).toArray 77 (0, 0))
  have Y : A5 _ _ _ 0 0 0 0 0 := b2_1 w (.cells (w5 0 v c s ph).toArray 77 (0, 0)) (.cells (w5 0 0 0 0 0).toArray 77 (0, 0))
  go_enter Try.func49, Try.ntmps49
  go_upto_region 1 with (fail)
  rw [zW_eq]
  generalize ((w.alloc (.cells (w5 0 v c s ph).toArray 77 (0, 0))).alloc (.cells (w5 0 0 0 0 0).toArray 77 (0, 0))) = W at *
  have x0 := X.c0
  go_wp2_with (refine loadW rfl (.tmp 1) rfl rfl X ?_)
  refine (hfl.out _).mono ?_
  rintro e w1 ⟨rfl, hb⟩
  have X1 := X.below hb
  have Y1 := Y.below hb
  have hB1 := tr hB hb
  clear X Y hB hb x0 W
  have X := X1
  have Y := Y1
  have hB := hB1
  clear X1 Y1 hB1
  generalize w1 = W at *
  have x1 := X.c1
  have x2 := X.c2
  have x3 := X.c3
  have x4 := X.c4
  have f1 := X.free 1
  have f2 := X.free 2
  have f3 := X.free 3
  have f4 := X.free 4
  go_upto_region 7 with (first | (go_at_call 54; refine (hpt.out _).mono ?_; rintro e w2 ⟨rfl, rfl⟩))
  have X2 := (((X.s2 c').s1 0).s3 1).s4 0
  have Y2 := (((Y.other w.heap.size 2 (.int .u32 c') (by omega)).other w.heap.size 1 (.int .u32 0) (by omega)).other w.heap.size 3 (.int .u32 1) (by omega)).other w.heap.size 4 (.int .u64 0) (by omega)
  have hB2 := (((hB.setCell (p := ⟨w.heap.size, 2, none⟩) (by simp) (.int .u32 c')).setCell (p := ⟨w.heap.size, 1, none⟩) (by simp) (.int .u32 0)).setCell (p := ⟨w.heap.size, 3, none⟩) (by simp) (.int .u32 1)).setCell (p := ⟨w.heap.size, 4, none⟩) (by simp) (.int .u64 0)
  clear X Y hB x1 x2 x3 x4 f1 f2 f3 f4
  generalize ((((W.setCell ⟨w.heap.size, 2, none⟩ (.int .u32 c')).setCell ⟨w.heap.size, 1, none⟩ (.int .u32 0)).setCell ⟨w.heap.size, 3, none⟩ (.int .u32 1)).setCell ⟨w.heap.size, 4, none⟩ (.int .u64 0)) = W2 at *
  have Y3 := A5.row Y2 0 0 c' 1 0
  have hB3 := below_setRow hB2 (w5 0 0 c' 1 0).toArray (g := w.heap.size + 1) (by omega)
  go_wp2_with (first | (refine loadW rfl (.tmp 1) rfl rfl X2 ?_) | (refine storeW rfl (.tmp 2) (.tmp 26) rfl rfl rfl Y2 ?_))
  refine bodyPost_ret (resW rfl _ _ rfl Y3) rfl ⟨rfl, hB3⟩
theorem nExpiredC (ld v c s ph c' : Int) (w : World) (l0 : 0 ≤ ld) (l1 : ld < 4294967296) (c0 : 0 ≤ c) (c1 : c < 4294967296) (re : Bool) (hre : bit c 1 = re) (hx : re = true ∧ ld ≠ 0) (hput : put c 0 1 0 = c') :
    Calls Try.prog 49 #[.agg (w5 ld v c s ph).toArray] w fun e w' => e = .returned (.agg (w5 ld ld c 1 0).toArray) ∧ Below w.heap.size w w' := by
  obtain ⟨rfl, hz⟩ := hx
  have hn : (ld == 0) = false := by simpa using hz
  clear hz
  have hfl := Lib.hid (fun w => by have := nFlag ld v c s ph 1 1 w c0 c1 rfl (by omega); rw [hre] at this; exact this)
  have hpt := Lib.hid (fun w => by have := Put c 0 1 0 w c0 c1 (by omega) (by omega) (by omega) (by omega); rw [hput] at this; exact this)
  clear hre hput
  have hB := trA (trA (tr0 w) (.cells (w5 ld v c s ph).toArray 77 (0, 0))) (.cells (w5 0 0 0 0 0).toArray 77 (0, 0))
  have X : A5 _ _ _ ld v c s ph := b2_0 w (.cells (w5 ld v c s ph).toArray 77 (0, 0)) (.cells (w5 0 0 0 0 0).toArray 77 (0, 0))
  have Y : A5 _ _ _ 0 0 0 0 0 := b2_1 w (.cells (w5 ld v c s ph).toArray 77 (0, 0)) (.cells (w5 0 0 0 0 0).toArray 77 (0, 0))
  go_enter Try.func49, Try.ntmps49
  go_upto_region 1 with (fail)
  rw [zW_eq]
  generalize ((w.alloc (.cells (w5 ld v c s ph).toArray 77 (0, 0))).alloc (.cells (w5 0 0 0 0 0).toArray 77 (0, 0))) = W at *
  have x0 := X.c0
  go_wp2_with (refine loadW rfl (.tmp 1) rfl rfl X ?_)
  refine (hfl.out _).mono ?_
  rintro e w1 ⟨rfl, hb⟩
  have X1 := X.below hb
  have Y1 := Y.below hb
  have hB1 := tr hB hb
  clear X Y hB hb x0 W
  have X := X1
  have Y := Y1
  have hB := hB1
  clear X1 Y1 hB1
  generalize w1 = W at *
  have x1 := X.c1
  have x2 := X.c2
  have x3 := X.c3
  have x4 := X.c4
  have f1 := X.free 1
  have f2 := X.free 2
  have f3 := X.free 3
  have f4 := X.free 4
  go_upto_region 7 with (first | (go_at_call 54; refine (hpt.out _).mono ?_; rintro e w2 ⟨rfl, rfl⟩))
  have X2 := ((X.s1 ld).s3 1).s4 0
  have Y2 := ((Y.other w.heap.size 1 (.int .u32 ld) (by omega)).other w.heap.size 3 (.int .u32 1) (by omega)).other w.heap.size 4 (.int .u64 0) (by omega)
  have hB2 := ((hB.setCell (p := ⟨w.heap.size, 1, none⟩) (by simp) (.int .u32 ld)).setCell (p := ⟨w.heap.size, 3, none⟩) (by simp) (.int .u32 1)).setCell (p := ⟨w.heap.size, 4, none⟩) (by simp) (.int .u64 0)
  clear X Y hB x1 x2 x3 x4 f1 f2 f3 f4
  generalize (((W.setCell ⟨w.heap.size, 1, none⟩ (.int .u32 ld)).setCell ⟨w.heap.size, 3, none⟩ (.int .u32 1)).setCell ⟨w.heap.size, 4, none⟩ (.int .u64 0)) = W2 at *
  have Y3 := A5.row Y2 ld ld c 1 0
  have hB3 := below_setRow hB2 (w5 ld ld c 1 0).toArray (g := w.heap.size + 1) (by omega)
  go_wp2_with (first | (refine loadW rfl (.tmp 1) rfl rfl X2 ?_) | (refine storeW rfl (.tmp 2) (.tmp 26) rfl rfl rfl Y2 ?_))
  refine bodyPost_ret (resW rfl _ _ rfl Y3) rfl ⟨rfl, hB3⟩
theorem wl_w5 (t : Tm) : wl t = w5 t.ld t.v (ctl t.en t.re t.iq t.sc) (tk t.st) t.ph := rfl
theorem nExp (t : Tm) (w : World) (h : t.ok) : Calls Try.prog 49 #[.agg (wl t).toArray] w fun e w' => e = .returned (.agg (wl t.exp).toArray) ∧ Below w.heap.size w w' := by
  have hre := ctl_bit1 t.en t.re t.iq t.sc
  have hp := ctl_clear t.en t.re t.iq t.sc h.s0 h.s1
  rw [wl_w5, wl_w5]
  unfold Tm.exp
  cases hr : t.re
  · rw [if_neg (by simp)]
    have := nExpiredA t.ld t.v (ctl t.en t.re t.iq t.sc) (tk t.st) t.ph _ w h.l0 h.l1 h.c.1 h.c.2 t.re hre hr hp
    rw [hr] at this
    exact this
  · by_cases hl : t.ld = 0
    · rw [if_neg (by simp [hl])]
      have := nExpiredB t.ld t.v (ctl t.en t.re t.iq t.sc) (tk t.st) t.ph _ w h.l0 h.l1 h.c.1 h.c.2 t.re hre ⟨hr, hl⟩ hp
      rw [hr] at this
      exact this
    · rw [if_pos (by simp [hl])]
      have := nExpiredC t.ld t.v (ctl t.en t.re t.iq t.sc) (tk t.st) t.ph _ w h.l0 h.l1 h.c.1 h.c.2 t.re hre ⟨hr, hl⟩ hp
      rw [hr] at this
      exact this
end Go.Proofs.Ytijjapmdkalfaaa.B
