/- What the document's own answers of layer 1 return: the same plain numbers. -/
import Derived.Test.YteaanlemmhnpgaaBCode
import Derived.Test.YteaanlemmhnpgaaBBit
import Derived.Deep.QuietTactic
import Derived.BigQuiet
namespace Go.Proofs.Yteaanlemmhnpgaa.B
set_option linter.unusedVariables false
set_option linter.unusedSimpArgs false
open Go.ChangeShapes Go.WideShapes Go.RowKit
theorem rLo (a : Int) (w : World) (h0 : 0 ≤ a) (h1 : a < 18446744073709551616) :
    Calls Try.prog 42 #[.int .u64 a] w fun e w' => e = .returned (.int .u32 (lo a)) ∧ w = w' := by
  go_enter Try.func42, Try.ntmps42
  go_wp2
  go_ret
  exact ⟨rfl, rfl⟩
theorem rHi (a : Int) (w : World) (h0 : 0 ≤ a) (h1 : a < 18446744073709551616) :
    Calls Try.prog 43 #[.int .u64 a] w fun e w' => e = .returned (.int .u32 (hi a)) ∧ w = w' := by
  go_enter Try.func43, Try.ntmps43
  go_wp2
  go_ret
  exact ⟨rfl, rfl⟩
theorem rJoin (h l : Int) (w : World) (h0 : 0 ≤ h) (h1 : h < 4294967296) (l0 : 0 ≤ l) (l1 : l < 4294967296) :
    Calls Try.prog 44 #[.int .u32 h, .int .u32 l] w fun e w' => e = .returned (.int .u64 (join h l)) ∧ w = w' := by
  go_enter Try.func44, Try.ntmps44
  go_wp2
  go_ret
  exact ⟨rfl, rfl⟩
theorem rAdd (a b : Int) (w : World) (h0 : 0 ≤ a) (h1 : a < 18446744073709551616) (l0 : 0 ≤ b) (l1 : b < 18446744073709551616) :
    Calls Try.prog 40 #[.int .u64 a, .int .u64 b] w fun e w' => e = .returned (.int .u64 (addS a b)) ∧ w = w' := by
  go_enter Try.func40, Try.ntmps40
  go_wp2
  all_goals (go_ret; exact ⟨ret_int (by unfold addS; first | rw [if_pos (by assumption)] | rw [if_neg (by omega)]), rfl⟩)
theorem mask_nat (k : Nat) (h : k ≤ 64) : mask k = 2 ^ k - 1 := by
  unfold mask; rw [if_neg (by omega)]
  split
  · obtain rfl : k = 64 := by omega
    decide
  · rw [Int.toNat_natCast]
theorem mask_succ (k : Nat) (h : k < 64) : mask ((k + 1 : Nat) : Int) = 2 * mask k + 1 := by
  rw [mask_nat _ (by omega), mask_nat _ (by omega), Int.pow_succ]; omega
theorem mask_low (k : Nat) (h : k < 64) : mask k ≤ 9223372036854775807 := by
  rw [mask_nat _ (by omega)]
  have h := two_pow_le (show k ≤ 63 by omega); have : (2 : Int) ^ 63 = 9223372036854775808 := by decide
  omega
theorem mask_end (n : Int) (k : Nat) (hk : (k : Int) ≤ n ∨ k = 0) (h : n ≤ k ∨ k = 64) (h6 : k ≤ 64) : mask k = mask n := by
  rcases h with h | h
  · rcases hk with hk | hk
    · rw [show n = k by omega]
    · subst hk; unfold mask
      by_cases e : n = 0
      · subst e; rfl
      · rw [if_neg (by omega), if_neg (by omega), if_pos (by omega)]; rfl
  · subst h; unfold mask
    rw [if_neg (by omega), if_pos (by omega), if_neg (by omega), if_pos (by omega)]
theorem dig_ref (n l : Int) (l0 : 0 ≤ l) (hl : l ≤ 8) : n / pw l.toNat % 64 = dig n l := by
  unfold dig; rw [if_neg (by omega)]
  split
  · obtain rfl : l = 8 := by omega
    rfl
  · rfl
theorem dig_ref_top (n l : Int) (hl : 8 < l) : n / pw 8 % 64 = dig n l := by
  unfold dig; rw [if_neg (by omega), if_pos (by omega)]
end Go.Proofs.Yteaanlemmhnpgaa.B
