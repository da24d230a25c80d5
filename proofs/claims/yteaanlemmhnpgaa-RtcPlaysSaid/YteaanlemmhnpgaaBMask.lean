/- What bits.Lo, Mask, inWord return, in the plain numbers of BPlain. -/
import Derived.Test.YteaanlemmhnpgaaKit
import Derived.Test.YteaanlemmhnpgaaBPlain
namespace Go.Proofs.Yteaanlemmhnpgaa.B
set_option linter.unusedVariables false
set_option linter.unusedSimpArgs false
open Go.ChangeShapes Go.WideShapes Go.RowKit

theorem Lo (a : Int) (w : World) (h0 : 0 ≤ a) (h1 : a < 18446744073709551616) :
    Calls Try.prog 46 #[.int .u64 a] w fun e w' => e = .returned (.int .u32 (lo a)) ∧ w = w' := by
  go_enter Try.func46, Try.ntmps46
  go_wp2
  go_ret
  exact ⟨rfl, rfl⟩
theorem Mask (n : Int) (w : World) (h0 : -9223372036854775808 ≤ n) (h1 : n < 9223372036854775808) :
    Calls Try.prog 51 #[.int .i64 n] w fun e w' => e = .returned (.int .u64 (mask n)) ∧ w = w' := by
  by_cases a : n < 0
  · go_enter Try.func51, Try.ntmps51
    go_wp2
    go_ret
    exact ⟨ret_int (by unfold mask; rw [if_pos a]), rfl⟩
  · by_cases b : 64 < n
    · go_enter Try.func51, Try.ntmps51
      go_wp2
      go_ret
      exact ⟨ret_int (wrap_mask_top n (by omega)), rfl⟩
    · go_enter Try.func51, Try.ntmps51
      go_wp2
      go_ret
      exact ⟨ret_int (wrap_mask n (by omega) (by omega)), rfl⟩
theorem inWord (low width : Int) (w : World) :
    Calls Try.prog 50 #[.int .i64 low, .int .i64 width] w fun e w' => e = .returned (.bool (inw low width)) ∧ w = w' := by
  go_enter Try.func50, Try.ntmps50
  go_wp2
  all_goals (go_ret; exact ⟨ret_bool (by unfold inw; first | (simp [*]; done) | (simp; omega)), rfl⟩)
end Go.Proofs.Yteaanlemmhnpgaa.B
