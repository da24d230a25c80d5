/- Fields of words: Field, Put. -/
import Derived.Test.YtlgdlmhgifhchaaBMask
import Derived.Deep.QuietTactic
import Derived.BigQuiet
namespace Go.Proofs.Ytlgdlmhgifhchaa.B
set_option linter.unusedVariables false
set_option linter.unusedSimpArgs false
open Go.ChangeShapes Go.WideShapes Go.RowKit
theorem Field (n low width : Int) (w : World) (h0 : 0 ≤ n) (h1 : n < 4294967296) (w0 : -9223372036854775808 ≤ width) (w1 : width < 9223372036854775808) :
    Calls Try.prog 37 #[.int .u32 n, .int .i64 low, .int .i64 width] w fun e w' => e = .returned (.int .u32 (field n low width)) ∧ ∃ k, w' = w.drewN k := by
  have m0 := mask_nonneg width
  have m1 := mask_le width
  cases hb : inw low width
  · go_enter Try.func37, Try.ntmps37
    go_wp2_with (go_at_call 38; refine (inWord _ _ _).mono ?_; rintro e w' ⟨rfl, rfl⟩)
    go_ret
    exact ⟨ret_int (by unfold field; rw [hb]; rfl), 0, rfl⟩
  · have hl : 0 ≤ low ∧ low < 32 := by unfold inw at hb; simp at hb; omega
    obtain ⟨l0, l1⟩ := hl
    go_enter Try.func37, Try.ntmps37
    go_wp2_with (first | (go_at_call 38; refine (inWord _ _ _).mono ?_; rintro e w' ⟨rfl, rfl⟩))
    go_quiet ((first | (go_at_call 39; exact Calls.quiet_of_same ((Mask _ _ (by omega) (by omega)).mono fun _ _ h => ⟨h.1, h.2.symm⟩)) | (go_at_call 31; exact Calls.quiet_of_same ((Lo _ _ (by omega) (by omega)).mono fun _ _ h => ⟨h.1, h.2.symm⟩))))
    go_wp2
    go_ret
    exact ⟨ret_int (field_code n low width h0 h1 hb), nq, rfl⟩
theorem Put (n low width v : Int) (w : World) (h0 : 0 ≤ n) (h1 : n < 4294967296) (w0 : -9223372036854775808 ≤ width) (w1 : width < 9223372036854775808) (v0 : 0 ≤ v) (v1 : v < 4294967296) :
    Calls Try.prog 36 #[.int .u32 n, .int .i64 low, .int .i64 width, .int .u32 v] w fun e w' => e = .returned (.int .u32 (put n low width v)) ∧ w = w' := by
  have m0 := mask_nonneg width
  have m1 := mask_le width
  cases hb : inw low width
  · go_enter Try.func36, Try.ntmps36
    go_wp2_with (go_at_call 38; refine (inWord _ _ _).mono ?_; rintro e w' ⟨rfl, rfl⟩)
    go_ret
    exact ⟨ret_int (by unfold put; rw [hb]; rfl), rfl⟩
  · have hl : 0 ≤ low ∧ low < 32 := by unfold inw at hb; simp at hb; omega
    obtain ⟨l0, l1⟩ := hl
    go_enter Try.func36, Try.ntmps36
    go_wp2_with (first | (go_at_call 38; refine (inWord _ _ _).mono ?_; rintro e w' ⟨rfl, rfl⟩) | (go_at_call 39; refine (Mask _ _ (by omega) (by omega)).mono ?_; rintro e w' ⟨rfl, rfl⟩) | (go_at_call 31; refine (Lo _ _ (by omega) (by omega)).mono ?_; rintro e w' ⟨rfl, rfl⟩))
    go_ret
    exact ⟨ret_int (put_code n low width v h0 h1 v0 hb), rfl⟩
end Go.Proofs.Ytlgdlmhgifhchaa.B
