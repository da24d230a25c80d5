/- The laws of layer 7: the chapter's example; BankNil. -/
import Derived.Test.YtijjapmdkalfaaaGRow
import Derived.Test.YtijjapmdkalfaaaGBank3
import Derived.Test.YtijjapmdkalfaaaGLeft
import Derived.Test.YtijjapmdkalfaaaFits
import Derived.OpenShut
namespace Go.Proofs.Ytijjapmdkalfaaa.B
set_option linter.unusedVariables false
set_option linter.unusedSimpArgs false
open Go.ChangeShapes Go.WideShapes Go.RowKit Go.Sort Go.MapKept
def k7 : Nat → Tm := kSto 2 (fun _ => tz) 40 1
theorem k7_err : kSErr 2 40 = 0 := rfl
theorem k7_zero : k7 0 = tz := rfl
theorem k7_one : k7 1 = ⟨0, 0, true, false, false, 0, 0, false⟩ := rfl
theorem k7_best : Best k7 0 2 1 1 := by
  refine .inr ⟨1, rfl, by omega, by omega, rfl, rfl, fun k h1 h2 e => ?_⟩
  have : k = 0 ∨ k = 1 := by omega
  rcases this with rfl | rfl
  · rw [k7_zero] at e; cases e
  · exact ⟨Int.le_refl _, fun h => by omega⟩
theorem k7_runs : ob (fun i => (k7 i).en) 2 = 2 := rfl
set_option maxHeartbeats 1600000 in
theorem bKnown (w : World) : Calls Try.prog 8 #[] w fun e w' => e = .returned (.bool true) ∧ Below w.heap.size w w' := by
  go_enter Try.func8, Try.ntmps8
  go_wp2_with fail
  refine (bNew 2 (by omega) (by omega) w).mono ?_
  rintro e w1 ⟨p, g, q, rfl, K, hB, hp, hg, hq⟩
  go_wp2_with fail
  refine (bStore K 40 1 (by omega) (by omega) (by omega) (by omega)).mono ?_
  rw [k7_err, show kSto 2 (fun _ => tz) 40 1 = k7 from rfl]
  rintro e w2 ⟨rfl, K2, ho⟩
  have B2 := own_below hB ho hq (Nat.le_refl _)
  clear K hB ho
  go_wp2_with fail
  refine (bLeft K2 1 1 k7_best).mono ?_
  rintro e w3 ⟨rfl, hb⟩
  have K3 := K2.below hb
  have B3 := tr B2 hb
  clear K2 B2 hb
  go_wp2_with fail
  refine (bRuns K3).mono ?_
  rw [k7_runs]
  rintro e w4 ⟨rfl, hb⟩
  have B4 := tr B3 hb
  clear K3 B3 hb
  go_wp2_with fail
  go_ret
  exact ⟨rfl, B4⟩
set_option maxHeartbeats 1600000 in
theorem wBankNil (v0 v1 v2 : Value) (w : World) (h0 : FitsV w (.int .u32) v0) (h1 : FitsV w (.int .u32) v1) (h2 : FitsV w (.int .u64) v2) :
    Calls Try.prog 6 #[v0, v1, v2] w fun e w' => e = .returned (.bool true) ∧ Below w.heap.size w w' := by
  obtain ⟨o, rfl, o0, o1⟩ := fits_u32 h0
  obtain ⟨v, rfl, v0, v1⟩ := fits_u32 h1
  obtain ⟨n, rfl, n0, n1⟩ := fits_u64 h2
  go_enter Try.func6, Try.ntmps6
  go_wp2_with fail
  refine (bTickNil n _).mono ?_
  rintro e w' ⟨rfl, rfl⟩
  go_wp2_with fail
  refine (bResetNil _).mono ?_
  rintro e w' ⟨rfl, rfl⟩
  go_wp2_with fail
  refine (bLoadNil o _).mono ?_
  rintro e w' ⟨rfl, rfl⟩
  go_wp2_with fail
  refine (bLeftNil _).mono ?_
  rintro e w' ⟨rfl, rfl⟩
  go_wp2_with fail
  refine (bKnown _).mono ?_
  rintro e w1 ⟨rfl, hb⟩
  go_wp2_with fail
  refine (bLenNil _).mono ?_
  rintro e w' ⟨rfl, rfl⟩
  go_wp2_with fail
  refine (bLinesNil _).mono ?_
  rintro e w' ⟨rfl, rfl⟩
  go_wp2_with fail
  refine (bRunsNil _).mono ?_
  rintro e w' ⟨rfl, rfl⟩
  go_wp2_with fail
  refine (bTimerNil 0 (by omega) _).mono ?_
  rintro e w' ⟨rfl, rfl⟩
  go_wp2_with fail
  refine (bStoreNil o v _).mono ?_
  rintro e w' ⟨rfl, rfl⟩
  go_wp2_with fail
  refine (bCopyNil _).mono ?_
  rintro e w' ⟨rfl, rfl⟩
  go_wp2_with fail
  go_ret
  exact ⟨rfl, hb⟩
end Go.Proofs.Ytijjapmdkalfaaa.B
