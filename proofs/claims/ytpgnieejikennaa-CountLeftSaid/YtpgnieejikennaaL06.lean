/- The laws of layer 6: the chapter's example; CountNil. -/
import Derived.Test.YtpgnieejikennaaNTick
import Derived.Test.YtpgnieejikennaaFits
import Derived.OpenShut
namespace Go.Proofs.Ytpgnieejikennaa.B
set_option linter.unusedVariables false
set_option linter.unusedSimpArgs false
open Go.ChangeShapes Go.WideShapes Go.RowKit Go.Sort Go.MapKept
def k1 : Tm := ⟨3, 0, false, false, false, 0, 0, false⟩
def k2 : Tm := ⟨3, 3, true, true, false, 1, 0, false⟩
def k3 : Tm := ⟨3, 1, true, true, false, 1, 1, false⟩
def k4 : Tm := ⟨3, 3, true, true, false, 1, 0, true⟩
theorem k1_ok : k1.ok := ⟨by decide, by decide, by decide, by decide, by decide, by decide, by decide, by decide⟩
theorem k2_ok : k2.ok := ⟨by decide, by decide, by decide, by decide, by decide, by decide, by decide, by decide⟩
theorem k3_ok : k3.ok := ⟨by decide, by decide, by decide, by decide, by decide, by decide, by decide, by decide⟩
theorem k4_ok : k4.ok := ⟨by decide, by decide, by decide, by decide, by decide, by decide, by decide, by decide⟩
theorem k_a : (if nSErr 0 = 0 then tz.sto 0 3 else tz) = k1 := rfl
theorem k_b : (if nSErr 8 = 0 then k1.sto 8 259 else k1) = k2 := rfl
theorem k_c : k2.tick 5 = k3 := rfl
theorem k_d : k3.tick 1 = k4 := rfl
theorem k_e : k2.lef = 6 := rfl
set_option maxHeartbeats 1600000 in
theorem nKnown (w : World) : Calls Try.prog 10 #[] w fun e w' => e = .returned (.bool true) ∧ Below w.heap.size w w' := by
  go_enter Try.func10, Try.ntmps10
  go_wp2_with fail
  refine (nNew w).mono ?_
  rintro e w1 ⟨rfl, rfl⟩
  have a : TAt (w.alloc (.cells (wl tz).toArray tC (0, 0))) w.heap.size tC tz := blk_new w (.cells (wl tz).toArray tC (0, 0))
  have hb := trA (tr0 w) (.cells (wl tz).toArray tC (0, 0))
  generalize w.alloc (.cells (wl tz).toArray tC (0, 0)) = W at *
  go_wp2_with fail
  refine (nStore tz 0 3 _ _ tz_ok a (by omega) (by omega) (by omega) (by omega)).mono ?_
  rw [k_a, show nSErr 0 = 0 from rfl]
  rintro e w2 ⟨rfl, a2, ho⟩
  have b2 := off_below hb ho (Nat.le_refl _) (Nat.le_refl _)
  clear a hb ho
  go_wp2_with fail
  refine (nStore k1 8 259 _ _ k1_ok a2 (by omega) (by omega) (by omega) (by omega)).mono ?_
  rw [k_b, show nSErr 8 = 0 from rfl]
  rintro e w3 ⟨rfl, a3, ho⟩
  have b3 := off_below b2 ho (Nat.le_refl _) (Nat.le_refl _)
  clear a2 b2 ho
  go_wp2_with fail
  refine (nLeftC k2 _ _ k2_ok a3).mono ?_
  rw [k_e]
  rintro e w4 ⟨rfl, hb⟩
  have a4 := a3.below hb
  have b4 := tr b3 hb
  clear a3 b3 hb
  go_wp2_with fail
  refine (nTick k2 5 _ _ k2_ok a4 (by omega) (by omega)).mono ?_
  rw [k_c]
  rintro e w5 ⟨rfl, a5, ho⟩
  have b5 := off_below b4 ho (Nat.le_refl _) (Nat.le_refl _)
  clear a4 b4 ho
  go_wp2_with fail
  refine (nLoad k3 4 _ _ k3_ok a5 (by omega) (by omega)).mono ?_
  rw [show k3.val 4 = 1 from rfl, show nErr 4 = 0 from rfl]
  rintro e w' ⟨rfl, rfl⟩
  go_wp2_with fail
  refine (nTick k3 1 _ _ k3_ok a5 (by omega) (by omega)).mono ?_
  rw [k_d]
  rintro e w6 ⟨rfl, a6, ho⟩
  have b6 := off_below b5 ho (Nat.le_refl _) (Nat.le_refl _)
  clear a5 b5 ho
  go_wp2_with fail
  refine (nLoad k4 4 _ _ k4_ok a6 (by omega) (by omega)).mono ?_
  rw [show k4.val 4 = 3 from rfl, show nErr 4 = 0 from rfl]
  rintro e w' ⟨rfl, rfl⟩
  go_wp2_with fail
  refine (nLoad k4 12 _ _ k4_ok a6 (by omega) (by omega)).mono ?_
  rw [show k4.val 12 = 1 from rfl, show nErr 12 = 0 from rfl]
  rintro e w' ⟨rfl, rfl⟩
  go_wp2_with fail
  go_ret
  exact ⟨rfl, b6⟩
set_option maxHeartbeats 1600000 in
theorem wCountNil (v0 v1 v2 : Value) (w : World) (h0 : FitsV w (.int .u32) v0) (h1 : FitsV w (.int .u32) v1) (h2 : FitsV w (.int .u64) v2) :
    Calls Try.prog 6 #[v0, v1, v2] w fun e w' => e = .returned (.bool true) ∧ Below w.heap.size w w' := by
  obtain ⟨o, rfl, o0, o1⟩ := fits_u32 h0
  obtain ⟨v, rfl, v0, v1⟩ := fits_u32 h1
  obtain ⟨n, rfl, n0, n1⟩ := fits_u64 h2
  go_enter Try.func6, Try.ntmps6
  go_wp2_with fail
  refine (nTickNil n _).mono ?_
  rintro e w' ⟨rfl, rfl⟩
  go_wp2_with fail
  refine (nResetNil _).mono ?_
  rintro e w' ⟨rfl, rfl⟩
  go_wp2_with fail
  refine (nLoadNil o _ o0 o1).mono ?_
  rintro e w' ⟨rfl, rfl⟩
  go_wp2_with fail
  refine (nKnown _).mono ?_
  rintro e w1 ⟨rfl, hb⟩
  go_wp2_with fail
  refine (nLineNil _).mono ?_
  rintro e w' ⟨rfl, rfl⟩
  go_wp2_with fail
  refine (nRunsNil _).mono ?_
  rintro e w' ⟨rfl, rfl⟩
  go_wp2_with fail
  refine (nLeftNil _).mono ?_
  rintro e w' ⟨rfl, rfl⟩
  go_wp2_with fail
  refine (nStoreNil o v _ o0 o1).mono ?_
  rintro e w' ⟨rfl, rfl⟩
  go_wp2_with fail
  refine (nCopyNil _).mono ?_
  rintro e w' ⟨rfl, rfl⟩
  go_wp2_with fail
  go_ret
  exact ⟨rfl, hb⟩
end Go.Proofs.Ytpgnieejikennaa.B
