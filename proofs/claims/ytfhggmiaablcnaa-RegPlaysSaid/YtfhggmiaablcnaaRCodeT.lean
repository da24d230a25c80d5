/- What Raise and Again of package reg return. -/
import Derived.Test.YtfhggmiaablcnaaRCode
namespace Go.Proofs.Ytfhggmiaablcnaa.B
set_option linter.unusedVariables false
set_option linter.unusedSimpArgs false
open Go.ChangeShapes Go.WideShapes Go.RowKit
theorem Raise (a s r c v : Int) (w : World) (a0 : 0 ≤ a) (a1 : a < 4294967296) (v0 : 0 ≤ v) (v1 : v < 4294967296) :
    Calls Try.prog 43 #[.agg #[.int .u32 a, .int .u32 s, .int .u32 r, .int .u32 c], .int .u32 v] w
      fun e w' => e = .returned (.agg #[.int .u32 (tnV a v 0), .int .u32 s, .int .u32 r, .int .u32 c]) ∧ Below w.heap.size w w' := by
  go_enter Try.func43, Try.ntmps43
  go_wp2
  refine bodyPost_ret (v := .agg #[.int .u32 (tnV a v 0), .int .u32 s, .int .u32 r, .int .u32 c]) ?_ rfl ?_
  · simp [results, Try.results43, go_sem]
    exact raise_code a v a0 a1 v0 v1
  · exact ⟨rfl, ((Below.refl _ _).alloc (Nat.le_refl _) _).alloc (by simp) _⟩
theorem Again (a s r c : Int) (w : World) :
    Calls Try.prog 45 #[.agg #[.int .u32 a, .int .u32 s, .int .u32 r, .int .u32 c]] w
      fun e w' => e = .returned (.agg #[.int .u32 s, .int .u32 s, .int .u32 r, .int .u32 c]) ∧ Below w.heap.size w w' := by
  go_enter Try.func45, Try.ntmps45
  go_wp2
  refine bodyPost_ret (v := .agg #[.int .u32 s, .int .u32 s, .int .u32 r, .int .u32 c]) ?_ rfl ?_
  · simp [results, Try.results45, go_sem]
  · exact ⟨rfl, ((Below.refl _ _).alloc (Nat.le_refl _) _).alloc (by simp) _⟩
end Go.Proofs.Ytfhggmiaablcnaa.B
