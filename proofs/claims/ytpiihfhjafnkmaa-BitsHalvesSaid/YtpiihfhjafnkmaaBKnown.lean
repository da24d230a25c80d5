/- The chapter's examples of layer 1 hold. -/
import Derived.Test.YtpiihfhjafnkmaaBTop
import Derived.Test.YtpiihfhjafnkmaaBRef2
import Derived.Test.YtpiihfhjafnkmaaBRef3
namespace Go.Proofs.Ytpiihfhjafnkmaa.B
set_option linter.unusedVariables false
set_option linter.unusedSimpArgs false
open Go.ChangeShapes Go.WideShapes Go.RowKit
theorem known (w : World) :
    Calls Try.prog 9 #[] w fun e w' => e = .returned (.bool true) ∧ Below w.heap.size w w' := by
  have k1 : (join 1 5 == 4294967301) = true := by decide
  have k2 : (dig 4096 2 == 1) = true := by decide
  have k3 : (top 63 64 == 1) = true := by decide
  have k4 : (first 9 1 == 3) = true := by decide
  have k5 : (signed 4294967295 == -1) = true := by decide
  go_enter Try.func9, Try.ntmps9
  go_wp2_with fail
  refine (Join 1 5 _ (by omega) (by omega) (by omega) (by omega)).mono ?_
  rintro e w' ⟨rfl, rfl⟩
  go_wp2_with fail
  refine (Digit 4096 2 _ (by omega) (by omega) (by omega) (by omega)).mono ?_
  rintro e w' ⟨rfl, rfl⟩
  go_wp2_with fail
  refine (Top 63 64 _ (by omega) (by omega) (by omega) (by omega)).mono ?_
  rintro e w1 ⟨rfl, hb1⟩
  go_wp2_with fail
  refine (First 9 1 _ (by omega) (by omega) (by omega) (by omega)).mono ?_
  rintro e w2 ⟨rfl, hb2⟩
  go_wp2_with fail
  refine (Signed 4294967295 _ (by omega) (by omega)).mono ?_
  rintro e w' ⟨rfl, rfl⟩
  go_wp2_with fail
  go_ret
  exact ⟨rfl, hb1.trans (hb2.mono hb1.size)⟩
end Go.Proofs.Ytpiihfhjafnkmaa.B
