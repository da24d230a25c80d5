/- A bit of a word, as the document's own answers ask it. -/
import Derived.Test.YteaanlemmhnpgaaKit
import Derived.Test.YteaanlemmhnpgaaBPlain
namespace Go.Proofs.Yteaanlemmhnpgaa.B
set_option linter.unusedVariables false
set_option linter.unusedSimpArgs false
open Go.ChangeShapes Go.WideShapes Go.RowKit
def hv (n : Int) (k : Nat) : Int := n / 2 ^ k
theorem hv_nonneg {n : Int} (h : 0 ≤ n) (k : Nat) : 0 ≤ hv n k := div_pow_nonneg n k h
theorem hv_le {n : Int} (h : 0 ≤ n) (k : Nat) : hv n k ≤ n := Int.ediv_le_self _ h
theorem hv_succ (n : Int) (k : Nat) : hv n (k + 1) = hv n k / 2 := by
  unfold hv; rw [Int.pow_succ, Int.ediv_ediv_of_nonneg (Int.le_of_lt (Int.pow_pos (by decide)))]
end Go.Proofs.Yteaanlemmhnpgaa.B
