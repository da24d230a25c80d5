/- What the words' ordered returns. -/
import Derived.Test.YtijjapmdkalfaaaNLat
namespace Go.Proofs.Ytijjapmdkalfaaa.B
set_option linter.unusedVariables false
set_option linter.unusedSimpArgs false
open Go.ChangeShapes Go.WideShapes Go.RowKit Go.Sort
theorem nFlag5 (ld v c s ph : Int) (w : World) (c0 : 0 ≤ c) (c1 : c < 4294967296) (r : Bool) (hr : bit c 0 = r) :
    Calls Try.prog 48 #[.agg (w5 ld v c s ph).toArray, .int .i64 0] w fun e w' => e = .returned (.bool r) ∧ Below w.heap.size w w' := by
  have := nFlag ld v c s ph 0 0 w c0 c1 rfl (by omega)
  rw [hr] at this
  exact this
set_option maxHeartbeats 800000 in
theorem nOrderedV (ld v c s ph x c' a b : Int) (ran b0 : Bool) (w : World) (c0 : 0 ≤ c) (c1 : c < 4294967296) (x0 : 0 ≤ x) (x1 : x < 4294967296) (hr : bit c 0 = ran) (d0 : 0 ≤ c') (d1 : c' < 4294967296) (hb : bit c' 0 = b0)
    (ha : field x 0 3 = a) (hb8 : field x 8 8 = b) (hp : put a 8 8 b = c') :
    Calls Try.prog 46 #[.agg (w5 ld v c s ph).toArray, .int .u32 x] w fun e w' => e = .returned (.agg (w5 ld (if (!ran && b0) = true then ld else v) c' s 0).toArray) ∧ Below w.heap.size w w' := by
  obtain ⟨a0, a1⟩ : 0 ≤ a ∧ a < 4294967296 := by rw [← ha]; exact field_bounds _ _ _ x0 x1
  obtain ⟨e0, e1⟩ : 0 ≤ b ∧ b < 4294967296 := by rw [← hb8]; exact field_bounds _ _ _ x0 x1
  have hF1 := Lib.hid (fun w => nFlag5 ld v c s ph w c0 c1 ran hr)
  have hF2 := Lib.hid (fun w => nFlag5 ld v c' s 0 w d0 d1 b0 hb)
  have hA := Lib.hid (fun w => by have := Field x 0 3 w x0 x1 (by omega) (by omega); rw [ha] at this; exact this)
  have hE := Lib.hid (fun w => by have := Field x 8 8 w x0 x1 (by omega) (by omega); rw [hb8] at this; exact this)
  have hP := Lib.hid (fun w => by have := Put a 8 8 b w a0 a1 (by omega) (by omega) e0 e1; rw [hp] at this; exact this)
  clear hr hb ha hb8 hp
  have hB := trA (trA (tr0 w) (.cells (w5 ld v c s ph).toArray 77 (0, 0))) (.cells (w5 0 0 0 0 0).toArray 77 (0, 0))
  have X : A5 _ _ _ ld v c s ph := b2_0 w (.cells (w5 ld v c s ph).toArray 77 (0, 0)) (.cells (w5 0 0 0 0 0).toArray 77 (0, 0))
  have Y : A5 _ _ _ 0 0 0 0 0 := b2_1 w (.cells (w5 ld v c s ph).toArray 77 (0, 0)) (.cells (w5 0 0 0 0 0).toArray 77 (0, 0))
  go_enter Try.func46, Try.ntmps46
  go_upto_region 1 with (fail)
  rw [zW_eq]
  generalize ((w.alloc (.cells (w5 ld v c s ph).toArray 77 (0, 0))).alloc (.cells (w5 0 0 0 0 0).toArray 77 (0, 0))) = W at *
  go_wp2_with (refine loadW rfl (.tmp 2) rfl rfl X ?_)
  refine (hF1.out _).mono ?_
  rintro e W1 ⟨rfl, hb⟩
  have X1 := X.below hb
  have Y1 := Y.below hb
  have hB1 := tr hB hb
  clear X Y hB hb hF1
  go_wp2_with fail
  refine (hA.out _).mono ?_
  rintro e W2 ⟨rfl, k1, rfl⟩
  go_wp2_with fail
  refine (hE.out _).mono ?_
  rintro e W3 ⟨rfl, k2, rfl⟩
  have hd := trN (trN (tr0 W1) k1) k2
  have X := X1.below hd
  have Y := Y1.below hd
  have hB := tr hB1 hd
  clear X1 Y1 hB1 hd hA hE
  generalize ((W1.drewN k1).drewN k2) = W3 at *
  have z2 := X.c2
  have z4 := X.c4
  have f2 := X.free 2
  have f4 := X.free 4
  go_upto_region 6 with (first | (go_at_call 54; refine (hP.out _).mono ?_; rintro e w2 ⟨rfl, rfl⟩))
  have X2 := (X.s2 c').s4 0
  have Y2 := (Y.other w.heap.size 2 (.int .u32 c') (by omega)).other w.heap.size 4 (.int .u64 0) (by omega)
  have hB2 := (hB.setCell (p := ⟨w.heap.size, 2, none⟩) (by simp) (.int .u32 c')).setCell (p := ⟨w.heap.size, 4, none⟩) (by simp) (.int .u64 0)
  clear X Y hB z2 z4 f2 f4 hP
  generalize ((W3.setCell ⟨w.heap.size, 2, none⟩ (.int .u32 c')).setCell ⟨w.heap.size, 4, none⟩ (.int .u64 0)) = W4 at *
  cases ran
  · go_wp2_with (refine loadWg (.tmp 2) rfl rfl rfl X2 ?_)
    refine (hF2.out _).mono ?_
    rintro e W5 ⟨rfl, hb⟩
    have X := X2.below hb
    have Y := Y2.below hb
    have hB := tr hB2 hb
    clear X2 Y2 hB2 hb hF2
    cases b0
    · have Y3 := A5.row Y ld v c' s 0
      have hB3 := below_setRow hB (w5 ld v c' s 0).toArray (g := w.heap.size + 1) (by omega)
      go_wp2_with (first | (refine loadW rfl (.tmp 2) rfl rfl X ?_) | (refine storeW rfl (.tmp 4) (.tmp 31) rfl rfl rfl Y ?_))
      refine bodyPost_ret (resW rfl _ _ rfl Y3) rfl ⟨rfl, hB3⟩
    · have z0 := X.c0
      have z1 := X.c1
      have f1 := X.free 1
      go_upto_region 8 with (fail)
      have X2 := X.s1 ld
      have Y2 := Y.other w.heap.size 1 (.int .u32 ld) (by omega)
      have hB2 := hB.setCell (p := ⟨w.heap.size, 1, none⟩) (by simp) (.int .u32 ld)
      clear X Y hB z0 z1 f1
      generalize (W5.setCell ⟨w.heap.size, 1, none⟩ (.int .u32 ld)) = W6 at *
      have Y3 := A5.row Y2 ld ld c' s 0
      have hB3 := below_setRow hB2 (w5 ld ld c' s 0).toArray (g := w.heap.size + 1) (by omega)
      go_wp2_with (first | (refine loadW rfl (.tmp 2) rfl rfl X2 ?_) | (refine storeW rfl (.tmp 4) (.tmp 31) rfl rfl rfl Y2 ?_))
      refine bodyPost_ret (resW rfl _ _ rfl Y3) rfl ⟨rfl, hB3⟩
  · have Y3 := A5.row Y2 ld v c' s 0
    have hB3 := below_setRow hB2 (w5 ld v c' s 0).toArray (g := w.heap.size + 1) (by omega)
    go_wp2_with (first | (refine loadW rfl (.tmp 2) rfl rfl X2 ?_) | (refine storeW rfl (.tmp 4) (.tmp 31) rfl rfl rfl Y2 ?_))
    refine bodyPost_ret (resW rfl _ _ rfl Y3) rfl ⟨rfl, hB3⟩
/-- Control is written. -/
def Tm.ord (t : Tm) (x : Int) : Tm := { t with v := if (!t.en && bit x 0) = true then t.ld else t.v, en := bit x 0, re := bit x 1, iq := bit x 2, sc := x / 256 % 256, ph := 0 }
theorem Tm.ord_ok {t : Tm} (h : t.ok) (x : Int) : (t.ord x).ok := by
  have hv : 0 ≤ (t.ord x).v ∧ (t.ord x).v < 4294967296 := by
    show 0 ≤ (if (!t.en && bit x 0) = true then t.ld else t.v) ∧ (if (!t.en && bit x 0) = true then t.ld else t.v) < 4294967296
    have := h.l0; have := h.l1; have := h.v0; have := h.v1
    split <;> omega
  exact ⟨h.l0, h.l1, hv.1, hv.2, by show 0 ≤ x / 256 % 256; omega, by show x / 256 % 256 < 256; omega, Int.le_refl 0, by show 0 ≤ x / 256 % 256; omega⟩
theorem nOrd (t : Tm) (x : Int) (w : World) (h : t.ok) (x0 : 0 ≤ x) (x1 : x < 4294967296) : Calls Try.prog 46 #[.agg (wl t).toArray, .int .u32 x] w fun e w' => e = .returned (.agg (wl (t.ord x)).toArray) ∧ Below w.heap.size w w' := by
  have hc := (Tm.ord_ok h x).c
  exact nOrderedV t.ld t.v (ctl t.en t.re t.iq t.sc) (tk t.st) t.ph x (ctl (bit x 0) (bit x 1) (bit x 2) (x / 256 % 256)) _ _ t.en (bit x 0) w h.c.1 h.c.2 x0 x1 (ctl_bit0 _ _ _ _) hc.1 hc.2 (ctl_bit0 _ _ _ _) rfl rfl (ctl_put x x0 x1)
end Go.Proofs.Ytijjapmdkalfaaa.B
