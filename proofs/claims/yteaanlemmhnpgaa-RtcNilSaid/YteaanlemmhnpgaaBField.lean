/- Fields of words: Field, Put. -/
import Derived.Test.YteaanlemmhnpgaaBMask
import Derived.Deep.QuietTactic
import Derived.BigQuiet
namespace Go.Proofs.Yteaanlemmhnpgaa.B
set_option linter.unusedVariables false
set_option linter.unusedSimpArgs false
open Go.ChangeShapes Go.WideShapes Go.RowKit
theorem Field (n low width : Int) (w : World) (h0 : 0 ≤ n) (h1 : n < 4294967296) (w0 : -9223372036854775808 ≤ width) (w1 : width < 9223372036854775808) :
    Calls Try.prog 49 #[.int .u32 n, .int .i64 low, .int .i64 width] w fun e w' => e = .returned (.int .u32 (field n low width)) ∧ ∃ k, w' = w.drewN k := by
  have m0 := mask_nonneg width
  have m1 := mask_le width
  cases hb : inw low width
  · go_enter Try.func49, Try.ntmps49
    go_wp2_with (go_at_call 50; refine (inWord _ _ _).mono ?_; rintro e w' ⟨rfl, rfl⟩)
    go_ret
    exact ⟨ret_int (by unfold field; rw [hb]; rfl), 0, rfl⟩
  · have hl : 0 ≤ low ∧ low < 32 := by unfold inw at hb; simp at hb; omega
    obtain ⟨l0, l1⟩ := hl
    go_enter Try.func49, Try.ntmps49
    go_wp2_with (first | (go_at_call 50; refine (inWord _ _ _).mono ?_; rintro e w' ⟨rfl, rfl⟩))
    go_quiet ((first | (go_at_call 51; exact Calls.quiet_of_same ((Mask _ _ (by omega) (by omega)).mono fun _ _ h => ⟨h.1, h.2.symm⟩)) | (go_at_call 46; exact Calls.quiet_of_same ((Lo _ _ (by omega) (by omega)).mono fun _ _ h => ⟨h.1, h.2.symm⟩))))
    go_wp2
    go_ret
    exact ⟨ret_int (field_code n low width h0 h1 hb), nq, rfl⟩
end Go.Proofs.Yteaanlemmhnpgaa.B
