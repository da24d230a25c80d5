/- The laws of layer 4 without the document's own answers: LinesNil, LinesEach. -/
import Derived.Test.YtbmdhbcmiljanaaLines
import Derived.Test.YtbmdhbcmiljanaaFits
import Derived.OpenShut
namespace Go.Proofs.Ytbmdhbcmiljanaa.B
set_option linter.unusedVariables false
set_option linter.unusedSimpArgs false
open Go.ChangeShapes Go.WideShapes Go.RowKit Go.Sort
theorem kn1 : put 0 3 1 (tk true) = 8 := by decide +kernel
theorem kn2 : outB 8 0 = false := by decide +kernel
theorem kn3 : outB 8 8 = true := by decide +kernel
theorem kn4 : least (lm 8 8) = 3 := by decide +kernel
theorem lKnown (w : World) : Calls Try.prog 18 #[] w fun e w' => e = .returned (.bool true) ∧ Below w.heap.size w w' := by
  go_enter Try.func18, Try.ntmps18
  go_wp2_with fail
  refine (lNew _).mono ?_
  rintro e w1 ⟨rfl, rfl⟩
  have A : LAt (w.alloc (.cells #[.int .u32 0, .int .u32 0] 55)) w.heap.size 0 0 := blk_new w _
  have hb : Below w.heap.size w (w.alloc (.cells #[.int .u32 0, .int .u32 0] 55)) := trA (tr0 w) _
  generalize (w.alloc (.cells #[.int .u32 0, .int .u32 0] 55)) = W at *
  go_wp2_with fail
  refine (lSet 0 0 3 true _ _ A (by omega) (by omega) (by omega) (by omega)).mono ?_
  rw [kn1]
  rintro e w1 ⟨rfl, rfl⟩
  have A1 := A.set0 8
  have hb1 := hb.setCell (p := ⟨w.heap.size, 0, none⟩) (Nat.le_refl _) (.int .u32 8)
  clear A hb
  generalize W.setCell ⟨w.heap.size, 0, none⟩ (.int .u32 8) = W1 at *
  go_wp2_with fail
  refine (lOut 8 0 _ _ A1 (by omega) (by omega) (by omega) (by omega)).mono ?_
  rw [kn2]
  rintro e w2 ⟨rfl, hb2⟩
  have A2 := A1.below hb2
  have hb3 := tr hb1 hb2
  clear A1 hb1 hb2
  go_wp2_with fail
  refine (lStore 8 0 8 _ _ A2).mono ?_
  rintro e w1 ⟨rfl, rfl⟩
  have A3 := A2.set1 8
  have hb4 := hb3.setCell (p := ⟨w.heap.size, 1, none⟩) (Nat.le_refl _) (.int .u32 8)
  clear A2 hb3
  generalize w2.setCell ⟨w.heap.size, 1, none⟩ (.int .u32 8) = W3 at *
  go_wp2_with fail
  refine (lOut 8 8 _ _ A3 (by omega) (by omega) (by omega) (by omega)).mono ?_
  rw [kn3]
  rintro e w5 ⟨rfl, hb5⟩
  have A5 := A3.below hb5
  have hb6 := tr hb4 hb5
  clear A3 hb4 hb5
  go_wp2_with fail
  refine (lLeast 8 8 _ _ A5 (by omega) (by omega) (by omega) (by omega)).mono ?_
  rw [kn4]
  rintro e w7 ⟨rfl, hb7⟩
  go_wp2_with fail
  go_ret
  exact ⟨rfl, tr hb6 hb7⟩
set_option maxRecDepth 100000 in
set_option maxHeartbeats 1600000 in
theorem wLinesNil (v0 v1 : Value) (w : World) (h0 : FitsV w (.int .i64) v0) (h1 : FitsV w (.int .u32) v1) :
    Calls Try.prog 5 #[v0, v1] w fun e w' => e = .returned (.bool true) ∧ Below w.heap.size w w' := by
  obtain ⟨a, rfl, a0, a1⟩ := fits_i64 h0
  obtain ⟨v, rfl, v0, v1⟩ := fits_u32 h1
  go_enter Try.func5, Try.ntmps5
  go_wp2_with fail
  refine (lAllNil _ _).mono ?_
  rintro e w' ⟨rfl, rfl⟩
  go_wp2_with fail
  refine (lResetNil _).mono ?_
  rintro e w' ⟨rfl, rfl⟩
  go_wp2_with fail
  refine (lLoadNil _ _ v0 v1).mono ?_
  rintro e w' ⟨rfl, rfl⟩
  go_wp2_with fail
  refine (lKnown _).mono ?_
  rintro e w1 ⟨rfl, hb1⟩
  go_wp2_with fail
  refine (lSetNil _ _ _).mono ?_
  rintro e w' ⟨rfl, rfl⟩
  go_wp2_with fail
  refine (lHighNil _).mono ?_
  rintro e w' ⟨rfl, rfl⟩
  go_wp2_with fail
  refine (lStoreNil _ _ _ v0 v1).mono ?_
  rintro e w' ⟨rfl, rfl⟩
  go_wp2_with fail
  refine (lOutNil _).mono ?_
  rintro e w2 ⟨rfl, hb2⟩
  go_wp2_with fail
  refine (lLeastNil _).mono ?_
  rintro e w' ⟨rfl, rfl⟩
  go_wp2_with fail
  refine (lCopyNil _).mono ?_
  rintro e w' ⟨rfl, rfl⟩
  go_wp2_with fail
  go_ret
  exact ⟨rfl, tr hb1 hb2⟩
end Go.Proofs.Ytbmdhbcmiljanaa.B
