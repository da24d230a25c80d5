/- What each function of package count's words returns. -/
import Derived.Test.YtijjapmdkalfaaaNPlain2
import Derived.Test.YtijjapmdkalfaaaBField
import Derived.Test.YtijjapmdkalfaaaTail
import Derived.Deep.Cut
namespace Go.Proofs.Ytijjapmdkalfaaa.B
set_option linter.unusedVariables false
set_option linter.unusedSimpArgs false
open Go.ChangeShapes Go.WideShapes Go.RowKit Go.Sort
theorem nField (ld v c s ph low width : Int) (w : World) (c0 : 0 ≤ c) (c1 : c < 4294967296) (w0 : -9223372036854775808 ≤ width) (w1 : width < 9223372036854775808) :
    Calls Try.prog 56 #[.agg #[.int .u32 ld, .int .u32 v, .int .u32 c, .int .u32 s, .int .u64 ph], .int .i64 low, .int .i64 width] w fun e w' => e = .returned (.int .u32 (field c low width)) ∧ Below w.heap.size w w' := by
  go_enter Try.func56, Try.ntmps56
  go_wp2_with fail
  refine (Field _ _ _ _ c0 c1 w0 w1).mono ?_
  rintro e w' ⟨rfl, n, rfl⟩
  go_wp2_with fail
  go_ret
  exact ⟨rfl, trN (trA (tr0 w) _) n⟩
theorem nFlag (ld v c s ph k : Int) (K : Nat) (w : World) (c0 : 0 ≤ c) (c1 : c < 4294967296) (hk : k = (K : Int)) (hK : K < 32) :
    Calls Try.prog 48 #[.agg #[.int .u32 ld, .int .u32 v, .int .u32 c, .int .u32 s, .int .u64 ph], .int .i64 k] w fun e w' => e = .returned (.bool (bit c K)) ∧ Below w.heap.size w w' := by
  subst hk
  have hq := field_one c K c0 hK
  go_enter Try.func48, Try.ntmps48
  go_wp2_with fail
  refine (nField _ _ _ _ _ _ _ _ c0 c1 (by omega) (by omega)).mono ?_
  rintro e w' ⟨rfl, hb⟩
  go_wp2_with fail
  go_ret
  exact ⟨rfl, tr (trA (tr0 w) _) hb⟩
theorem nPeriod (ld v c s ph sc : Int) (w : World) (c0 : 0 ≤ c) (c1 : c < 4294967296) (hs : field c 8 8 = sc) (s0 : 0 ≤ sc) (s1 : sc < 256) :
    Calls Try.prog 55 #[.agg #[.int .u32 ld, .int .u32 v, .int .u32 c, .int .u32 s, .int .u64 ph]] w fun e w' => e = .returned (.int .u64 (sc + 1)) ∧ Below w.heap.size w w' := by
  have hf := Lib.hid (fun w => nField ld v c s ph 8 8 w c0 c1 (by omega) (by omega))
  rw [hs] at hf
  go_enter Try.func55, Try.ntmps55
  go_wp2_with fail
  refine (hf.out _).mono ?_
  rintro e w' ⟨rfl, hb⟩
  go_wp2_with fail
  go_ret
  exact ⟨rfl, tr (trA (tr0 w) _) hb⟩
theorem nLeft (ld v c s ph sc : Int) (w : World) (v0 : 0 ≤ v) (v1 : v < 4294967296) (c0 : 0 ≤ c) (c1 : c < 4294967296) (hs : field c 8 8 = sc) (s0 : 0 ≤ sc) (s1 : sc < 256) (p0 : 0 ≤ ph) (p1 : ph ≤ sc) :
    Calls Try.prog 47 #[.agg #[.int .u32 ld, .int .u32 v, .int .u32 c, .int .u32 s, .int .u64 ph]] w fun e w' => e = .returned (.int .u64 (lft v sc ph)) ∧ Below w.heap.size w w' := by
  have hp := Lib.hid (fun w => nPeriod ld v c s ph sc w c0 c1 hs s0 s1)
  have hb := lft_bounds v1 s0 s1 p0 p1
  unfold lft at hb
  have hm : max v 1 < 4294967296 ∧ 1 ≤ max v 1 := by omega
  go_enter Try.func47, Try.ntmps47
  go_upto_region 2 with (fail)
  rw [show (if v < 1 then 1 else v) = max v 1 by split <;> omega]
  have he := Lib.hid (show max v 1 * (sc + 1) - ph = lft v sc ph from rfl)
  generalize max v 1 = M at *
  have hq : 0 ≤ M * (sc + 1) ∧ M * (sc + 1) < 18446744073709551616 := by omega
  have X := blk_new w (.cells #[.int .u32 ld, .int .u32 v, .int .u32 c, .int .u32 s, .int .u64 ph] 77 (0, 0))
  have hB := trA (tr0 w) (.cells #[.int .u32 ld, .int .u32 v, .int .u32 c, .int .u32 s, .int .u64 ph] 77 (0, 0))
  have hl := lt_of_block X
  generalize w.alloc (.cells #[.int .u32 ld, .int .u32 v, .int .u32 c, .int .u32 s, .int .u64 ph] 77 (0, 0)) = W at *
  have x0 := blk_cell X 0
  have x1 := blk_cell X 1
  have x2 := blk_cell X 2
  have x3 := blk_cell X 3
  have x4 := blk_cell X 4
  simp only [List.getElem?_toArray, List.getElem?_cons_zero, List.getElem?_cons_succ] at x0 x1 x2 x3 x4
  clear X
  have hg := gcell
  refine wp_region_quiet_below (by kernel_rfl) (by kernel_rfl) ?_
  repeat (go_big_quiet_step (first | (go_at_call 55; exact Calls.regrown_of (hp.out _))))
  refine wpQuiet_nil ?_
  intro _ hw'
  obtain ⟨⟨dq, osq⟩, hw''⟩ := hw'
  subst hw''
  go_wp2_with fail
  go_ret
  exact ⟨ret_int he.out, trG hB _ _⟩
/-- A timer's words. -/
def wl (t : Tm) : List Value := [.int .u32 t.ld, .int .u32 t.v, .int .u32 (ctl t.en t.re t.iq t.sc), .int .u32 (tk t.st), .int .u64 t.ph]
theorem Tm.ok.c {t : Tm} (h : t.ok) : 0 ≤ ctl t.en t.re t.iq t.sc ∧ ctl t.en t.re t.iq t.sc < 4294967296 := ctl_bounds _ _ _ _ h.s0 h.s1
theorem nFlag0 (t : Tm) (w : World) (h : t.ok) : Calls Try.prog 48 #[.agg (wl t).toArray, .int .i64 0] w fun e w' => e = .returned (.bool t.en) ∧ Below w.heap.size w w' := by
  have := nFlag t.ld t.v (ctl t.en t.re t.iq t.sc) (tk t.st) t.ph 0 0 w h.c.1 h.c.2 rfl (by omega)
  rw [ctl_bit0] at this; exact this
theorem nFlag1 (t : Tm) (w : World) (h : t.ok) : Calls Try.prog 48 #[.agg (wl t).toArray, .int .i64 1] w fun e w' => e = .returned (.bool t.re) ∧ Below w.heap.size w w' := by
  have := nFlag t.ld t.v (ctl t.en t.re t.iq t.sc) (tk t.st) t.ph 1 1 w h.c.1 h.c.2 rfl (by omega)
  rw [ctl_bit1] at this; exact this
theorem nFlag2 (t : Tm) (w : World) (h : t.ok) : Calls Try.prog 48 #[.agg (wl t).toArray, .int .i64 2] w fun e w' => e = .returned (.bool t.iq) ∧ Below w.heap.size w w' := by
  have := nFlag t.ld t.v (ctl t.en t.re t.iq t.sc) (tk t.st) t.ph 2 2 w h.c.1 h.c.2 rfl (by omega)
  rw [ctl_bit2] at this; exact this
theorem nPer (t : Tm) (w : World) (h : t.ok) : Calls Try.prog 55 #[.agg (wl t).toArray] w fun e w' => e = .returned (.int .u64 (t.sc + 1)) ∧ Below w.heap.size w w' :=
  nPeriod t.ld t.v (ctl t.en t.re t.iq t.sc) (tk t.st) t.ph t.sc w h.c.1 h.c.2 (ctl_field _ _ _ _ h.s0 h.s1) h.s0 h.s1
theorem nLft (t : Tm) (w : World) (h : t.ok) : Calls Try.prog 47 #[.agg (wl t).toArray] w fun e w' => e = .returned (.int .u64 t.left) ∧ Below w.heap.size w w' :=
  nLeft t.ld t.v (ctl t.en t.re t.iq t.sc) (tk t.st) t.ph t.sc w h.v0 h.v1 h.c.1 h.c.2 (ctl_field _ _ _ _ h.s0 h.s1) h.s0 h.s1 h.p0 h.p1
end Go.Proofs.Ytijjapmdkalfaaa.B
