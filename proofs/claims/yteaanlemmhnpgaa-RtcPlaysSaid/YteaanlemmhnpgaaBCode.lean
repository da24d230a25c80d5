/- What each function of package bits returns, in the plain numbers of BPlain. -/
import Derived.Test.YteaanlemmhnpgaaKit
import Derived.Test.YteaanlemmhnpgaaBMask
namespace Go.Proofs.Yteaanlemmhnpgaa.B
set_option linter.unusedVariables false
set_option linter.unusedSimpArgs false
open Go.ChangeShapes Go.WideShapes Go.RowKit

theorem Hi (a : Int) (w : World) (h0 : 0 ≤ a) (h1 : a < 18446744073709551616) :
    Calls Try.prog 48 #[.int .u64 a] w fun e w' => e = .returned (.int .u32 (hi a)) ∧ w = w' := by
  go_enter Try.func48, Try.ntmps48
  go_wp2
  go_ret
  exact ⟨rfl, rfl⟩
theorem Join (h l : Int) (w : World) (h0 : 0 ≤ h) (h1 : h < 4294967296) (l0 : 0 ≤ l) (l1 : l < 4294967296) :
    Calls Try.prog 47 #[.int .u32 h, .int .u32 l] w fun e w' => e = .returned (.int .u64 (join h l)) ∧ w = w' := by
  go_enter Try.func47, Try.ntmps47
  go_wp2
  go_ret
  exact ⟨ret_int (or_join h l h0 h1 l0 l1), rfl⟩
theorem Add (a b : Int) (w : World) (h0 : 0 ≤ a) (h1 : a < 18446744073709551616) (l0 : 0 ≤ b) (l1 : b < 18446744073709551616) :
    Calls Try.prog 45 #[.int .u64 a, .int .u64 b] w fun e w' => e = .returned (.int .u64 (addS a b)) ∧ w = w' := by
  go_enter Try.func45, Try.ntmps45
  go_wp2
  all_goals (go_ret; exact ⟨ret_int (by unfold addS; first | rw [if_pos (by assumption)] | rw [if_neg (by omega)]), rfl⟩)
end Go.Proofs.Yteaanlemmhnpgaa.B
