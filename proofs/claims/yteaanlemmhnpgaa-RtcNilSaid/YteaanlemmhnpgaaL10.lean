/- The laws of layer 10: the chapter's example; RtcNil. -/
import Derived.Test.YteaanlemmhnpgaaTCode3
import Derived.Test.YteaanlemmhnpgaaFits
import Derived.OpenShut
namespace Go.Proofs.Yteaanlemmhnpgaa.B
set_option linter.unusedVariables false
set_option linter.unusedSimpArgs false
open Go.ChangeShapes Go.WideShapes Go.RowKit Go.Sort Go.MapKept
def k1 : Rk := ⟨10, 0, 0, 0, 2, 0, false, false⟩
def k2 : Rk := ⟨10, 0, 0, 0, 2, 0, true, false⟩
def k3 : Rk := ⟨10, 9, 0, 1, 2, 0, true, false⟩
def k4 : Rk := ⟨10, 0, 0, 2, 2, 0, true, true⟩
theorem k1_eq : (rk0 10).sto 16 2 = k1 := rfl
theorem k2_eq : k1.sto 24 1 = k2 := rfl
theorem k3_eq : k2.tick 19 = k3 := rfl
theorem k4_eq : k3.tick 1 = k4 := rfl
theorem k0_ok : (rk0 10).ok := rk0_ok (by omega) (by omega)
theorem k1_ok : k1.ok := k1_eq ▸ Rk.sto_ok k0_ok (by omega) (by omega)
theorem k2_ok : k2.ok := k2_eq ▸ Rk.sto_ok k1_ok (by omega) (by omega)
theorem k3_ok : k3.ok := k3_eq ▸ Rk.tick_ok k2_ok (by omega)
theorem k2_left : k2.left = 20 := rfl
set_option maxHeartbeats 1600000 in
theorem eKnown (w : World) : Calls Try.prog 8 #[] w fun e w' => e = .returned (.bool true) ∧ Below w.heap.size w w' := by
  go_enter Try.func8, Try.ntmps8
  go_wp2_with fail
  refine (eNew 10 w (by omega) (by omega)).mono ?_
  rintro e w1 ⟨rfl, rfl⟩
  have a := ea_new w tRtc (rk0 10)
  have b := trA (tr0 w) (oE tRtc (rk0 10))
  generalize w.alloc (oE tRtc (rk0 10)) = W at *
  go_wp2_with fail
  refine (eStore (rk0 10) 16 2 _ _ k0_ok a (by omega) (by omega) (by omega) (by omega)).mono ?_
  rw [k1_eq, show wErrT 16 = 0 from rfl]
  rintro e w3 ⟨rfl, a2, ho⟩
  have b4 := off_below b ho (Nat.le_refl _) (Nat.le_refl _)
  clear ho a b
  go_wp2_with fail
  refine (eStore k1 24 1 _ _ k1_ok a2 (by omega) (by omega) (by omega) (by omega)).mono ?_
  rw [k2_eq, show wErrT 24 = 0 from rfl]
  rintro e w6 ⟨rfl, a5, ho⟩
  have b7 := off_below b4 ho (Nat.le_refl _) (Nat.le_refl _)
  clear ho a2 b4
  go_wp2_with fail
  refine (eLeft k2 _ _ k2_ok a5).mono ?_
  rintro e w9 ⟨rfl, hb⟩
  have a10 := a5.below hb
  have b11 := tr b7 hb
  clear hb a5 b7
  rw [k2_left]
  go_wp2_with fail
  refine (eTick k2 19 _ _ k2_ok a10 (by omega) (by omega)).mono ?_
  rw [k3_eq]
  rintro e w13 ⟨rfl, a12, ho⟩
  have b14 := off_below b11 ho (Nat.le_refl _) (Nat.le_refl _)
  clear ho a10 b11
  go_wp2_with fail
  refine (eLine k3 _ _ a12).mono ?_
  rintro e w16 ⟨rfl, hb⟩
  have a17 := a12.below hb
  have b18 := tr b14 hb
  clear hb a12 b14
  rw [show k3.st = false from rfl]
  go_wp2_with fail
  refine (eTick k3 1 _ _ k3_ok a17 (by omega) (by omega)).mono ?_
  rw [k4_eq]
  rintro e w20 ⟨rfl, a19, ho⟩
  have b21 := off_below b18 ho (Nat.le_refl _) (Nat.le_refl _)
  clear ho a17 b18
  go_wp2_with fail
  refine (eLine k4 _ _ a19).mono ?_
  rintro e w23 ⟨rfl, hb⟩
  have a24 := a19.below hb
  have b25 := tr b21 hb
  clear hb a19 b21
  rw [show k4.st = true from rfl]
  go_wp2_with fail
  refine (eSeconds k4 _ _ a24).mono ?_
  rintro e w27 ⟨rfl, hb⟩
  have a28 := a24.below hb
  have b29 := tr b25 hb
  clear hb a24 b25
  rw [show k4.sec = 2 from rfl]
  go_wp2_with fail
  go_ret
  exact ⟨rfl, b29⟩
theorem wRtcNil (v0 v1 v2 : Value) (w : World) (h0 : FitsV w (.int .u32) v0) (h1 : FitsV w (.int .u32) v1) (h2 : FitsV w (.int .u64) v2) :
    Calls Try.prog 6 #[v0, v1, v2] w fun e w' => e = .returned (.bool true) ∧ Below w.heap.size w w' := by
  obtain ⟨o, rfl, o0, o1⟩ := fits_u32 h0
  obtain ⟨v, rfl, v0, v1⟩ := fits_u32 h1
  obtain ⟨n, rfl, n0, n1⟩ := fits_u64 h2
  go_enter Try.func6, Try.ntmps6
  have b0 := tr0 w
  go_wp2_with fail
  refine (eTickNil n _).mono ?_
  rintro e w3 ⟨rfl, hb⟩
  have b4 := tr b0 hb
  clear hb b0
  go_wp2_with fail
  refine (eResetNil _).mono ?_
  rintro e w' ⟨rfl, rfl⟩
  go_wp2_with fail
  refine (eLoadNil o _).mono ?_
  rintro e w6 ⟨rfl, hb⟩
  have b7 := tr b4 hb
  clear hb b4
  go_wp2_with fail
  refine (eKnown _).mono ?_
  rintro e w9 ⟨rfl, hb⟩
  have b10 := tr b7 hb
  clear hb b7
  go_wp2_with fail
  refine (eSecondsNil _).mono ?_
  rintro e w12 ⟨rfl, hb⟩
  have b13 := tr b10 hb
  clear hb b10
  go_wp2_with fail
  refine (eRestNil _).mono ?_
  rintro e w15 ⟨rfl, hb⟩
  have b16 := tr b13 hb
  clear hb b13
  go_wp2_with fail
  refine (eAlarmNil _).mono ?_
  rintro e w18 ⟨rfl, hb⟩
  have b19 := tr b16 hb
  clear hb b16
  go_wp2_with fail
  refine (eMetCNil _).mono ?_
  rintro e w21 ⟨rfl, hb⟩
  have b22 := tr b19 hb
  clear hb b19
  go_wp2_with fail
  refine (eLineNil _).mono ?_
  rintro e w24 ⟨rfl, hb⟩
  have b25 := tr b22 hb
  clear hb b22
  go_wp2_with fail
  refine (eLeftNil _).mono ?_
  rintro e w27 ⟨rfl, hb⟩
  have b28 := tr b25 hb
  clear hb b25
  go_wp2_with fail
  refine (eStoreNil o v _).mono ?_
  rintro e w30 ⟨rfl, hb⟩
  have b31 := tr b28 hb
  clear hb b28
  go_wp2_with fail
  refine (eCopyNil _).mono ?_
  rintro e w' ⟨rfl, rfl⟩
  go_wp2_with fail
  go_ret
  exact ⟨rfl, b31⟩
end Go.Proofs.Yteaanlemmhnpgaa.B
