/- Package bus: check, pageOf, cmp.Compare. -/
import Derived.Test.YtafegmmcgghgaaaBus
namespace Go.Proofs.Ytafegmmcgghgaaa.B
set_option linter.unusedVariables false
set_option linter.unusedSimpArgs false
open Go.ChangeShapes Go.WideShapes Go.RowKit Go.Sort
theorem zPageOf (a : Int) (w : World) (a0 : 0 ≤ a) (a1 : a < 4294967296) :
    Calls Try.prog 64 #[.int .u32 a] w fun e w' => e = .returned (.agg #[.int .u32 (a / 16777216)]) ∧ Below w.heap.size w w' := by
  go_enter Try.func64, Try.ntmps64
  go_wp2_with fail
  refine bodyPost_ret (v := .agg #[.int .u32 (a / 16777216)]) ?_ rfl ?_
  · simp [results, Try.results64, go_sem]
  · exact ⟨rfl, trA (tr0 w) _⟩
theorem zCheckBad (b s : Int) (w : World) (b0 : 0 ≤ b) (b1 : b < 4294967296) (s0 : 0 ≤ s) (s1 : s < 4294967296) (h : (b % 4 != 0) = true ∨ (b % 4 != 0) = false ∧ (s % 4 != 0) = true) :
    Calls Try.prog 49 #[.agg #[.int .u32 b, .int .u32 s]] w fun e w' => e = .returned (.int .i64 11) ∧ Below w.heap.size w w' := by
  rcases h with h1 | ⟨h1, h2⟩
  all_goals
    go_enter Try.func49, Try.ntmps49
    go_wp2_with fail
    go_ret
    exact ⟨rfl, trA (tr0 w) _⟩
theorem zCheckRange0 (b : Int) (w : World) (b0 : 0 ≤ b) (b1 : b < 4294967296) (h1 : (b % 4 != 0) = false) :
    Calls Try.prog 49 #[.agg #[.int .u32 b, .int .u32 0]] w fun e w' => e = .returned (.int .i64 5) ∧ Below w.heap.size w w' := by
  go_enter Try.func49, Try.ntmps49
  go_wp2_with fail
  go_ret
  exact ⟨rfl, trA (tr0 w) _⟩
theorem zCheckRange (b s : Int) (w : World) (b0 : 0 ≤ b) (b1 : b < 4294967296) (s0 : 0 ≤ s) (s1 : s < 4294967296) (h1 : (b % 4 != 0) = false) (h2 : (s % 4 != 0) = false) (h3 : (s == 0) = false) (h4 : 4294967296 < b + s) :
    Calls Try.prog 49 #[.agg #[.int .u32 b, .int .u32 s]] w fun e w' => e = .returned (.int .i64 5) ∧ Below w.heap.size w w' := by
  go_enter Try.func49, Try.ntmps49
  go_wp2_with (go_at_call 60; refine (zEnd _ _ _ b0 b1 s0 s1).mono ?_; rintro e w1 ⟨rfl, hb1⟩)
  go_ret
  exact ⟨rfl, tr (trA (tr0 w) _) hb1⟩
theorem zCheck (b s : Int) (w : World) (b0 : 0 ≤ b) (b1 : b < 4294967296) (s0 : 0 ≤ s) (s1 : s < 4294967296) (h1 : (b % 4 != 0) = false) (h2 : (s % 4 != 0) = false) (h3 : (s == 0) = false) (h4 : b + s ≤ 4294967296) :
    Calls Try.prog 49 #[.agg #[.int .u32 b, .int .u32 s]] w fun e w' => e = .returned (.int .i64 0) ∧ Below w.heap.size w w' := by
  go_enter Try.func49, Try.ntmps49
  go_wp2_with (go_at_call 60; refine (zEnd _ _ _ b0 b1 s0 s1).mono ?_; rintro e w1 ⟨rfl, hb1⟩)
  go_ret
  exact ⟨rfl, tr (trA (tr0 w) _) hb1⟩
theorem zIsNaN (a : Int) (w : World) :
    Calls Try.prog 75 #[.int .u32 a] w fun e w' => e = .returned (.bool false) ∧ w = w' := by
  go_enter Try.func75, Try.ntmps75
  go_wp2_with fail
  go_ret
  exact ⟨ret_bool (by simp), rfl⟩
def cmpI (a b : Int) : Int := if a < b then -1 else if b < a then 1 else 0
theorem zCompare (a b : Int) (w : World) :
    Calls Try.prog 67 #[.int .u32 a, .int .u32 b] w fun e w' => e = .returned (.int .i64 (cmpI a b)) ∧ w = w' := by
  by_cases h1 : a < b
  · have hx := Lib.hid (show cmpI a b = -1 by unfold cmpI; rw [if_pos h1])
    go_enter Try.func67, Try.ntmps67
    go_wp2_with (go_at_call 75; refine (zIsNaN _ _).mono ?_; rintro e w1 ⟨rfl, rfl⟩)
    go_ret
    exact ⟨ret_int hx.out.symm, rfl⟩
  · by_cases h2 : b < a
    · have hx := Lib.hid (show cmpI a b = 1 by unfold cmpI; rw [if_neg h1, if_pos h2])
      go_enter Try.func67, Try.ntmps67
      go_wp2_with (go_at_call 75; refine (zIsNaN _ _).mono ?_; rintro e w1 ⟨rfl, rfl⟩)
      go_ret
      exact ⟨ret_int hx.out.symm, rfl⟩
    · have hx := Lib.hid (show cmpI a b = 0 by unfold cmpI; rw [if_neg h1, if_neg h2])
      go_enter Try.func67, Try.ntmps67
      go_wp2_with (go_at_call 75; refine (zIsNaN _ _).mono ?_; rintro e w1 ⟨rfl, rfl⟩)
      go_ret
      exact ⟨ret_int hx.out.symm, rfl⟩
end Go.Proofs.Ytafegmmcgghgaaa.B
