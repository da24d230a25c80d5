/- slices.Sort at uint32, of no numbers. -/
import Derived.Test.YtafegmmcgghgaaaOffs
import Derived.Test.YtafegmmcgghgaaaSrtLay
import Derived.Shelf.SlSortCmp.Xorshift
namespace Go.Proofs.Ytafegmmcgghgaaa.B
set_option linter.unusedVariables false
set_option linter.unusedSimpArgs false
open Go.ChangeShapes Go.WideShapes Go.RowKit Go.Sort
theorem sLen0 (w : World) : Calls Try.prog 72 #[.int .u64 0] w fun e w' => e = .returned (.int .i64 0) ∧ w' = w := by
  have h := Any.bits_Len (SlLaysF0.n15.bits { Try.bitsLn with }) 0 w (by omega) (by omega)
  exact h.mono fun e w' hh => ⟨by rw [hh.1]; rfl, hh.2⟩
theorem sInsNil (w : World) : Calls Try.prog 76 #[.slice none 0 0, .int .i64 0, .int .i64 0] w fun e w' => e = .returned (.tuple #[]) ∧ w = w' := by
  go_enter Try.func76, Try.ntmps76
  go_wp2_with fail
  refine wp_loop_rounds 1 ?_
  rw [rounds_succ]
  go_wp2_with fail
  go_end0
  exact ⟨rfl, rfl⟩
theorem sPdqNil (w : World) : Calls Try.prog 71 #[.slice none 0 0, .int .i64 0, .int .i64 0, .int .i64 0] w fun e w' => e = .returned (.tuple #[]) ∧ w = w' := by
  go_enter Try.func71, Try.ntmps71
  go_wp2_with fail
  refine wp_loop_rounds 1 ?_
  rw [rounds_succ]
  go_wp2_with fail
  refine (sInsNil w).mono ?_
  rintro e w' ⟨rfl, rfl⟩
  go_wp2_with fail
  exact bodyPost_ret (v := .tuple #[]) (by simp [results, Try.results71, go_sem]) rfl ⟨rfl, rfl⟩
theorem sort_nil : SortNil := by
  intro w
  go_enter Try.func58, Try.ntmps58
  go_wp2_with fail
  refine (sLen0 w).mono ?_
  rintro e w1 ⟨rfl, rfl⟩
  go_wp2_with fail
  refine (sPdqNil _).mono ?_
  rintro e w1 ⟨rfl, rfl⟩
  go_wp2_with fail
  go_end0
  exact ⟨rfl, rfl⟩
end Go.Proofs.Ytafegmmcgghgaaa.B
