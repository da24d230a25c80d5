/- The laws of layer 8: the chapter's example; WdogNil. -/
import Derived.Test.YtlgdlmhgifhchaaWdog3
import Derived.Test.YtlgdlmhgifhchaaFits
import Derived.OpenShut
namespace Go.Proofs.Ytlgdlmhgifhchaa.B
set_option linter.unusedVariables false
set_option linter.unusedSimpArgs false
open Go.ChangeShapes Go.WideShapes Go.RowKit Go.Sort Go.MapKept
theorem off_below8 {w a b : World} {p : Nat} (h : Below w.heap.size w a) (k : Off (· = p) a b) (hp : w.heap.size ≤ p) : Below w.heap.size w b := off_below h k hp (Nat.le_refl _)
def d1 : Wd := ⟨false, false, false, 3, 0, 0, 0⟩
def d2 : Wd := ⟨false, false, false, 3, 10, 0, 0⟩
def d3 : Wd := ⟨true, false, false, 3, 10, 0, 0⟩
def d4 : Wd := ⟨true, false, false, 3, 10, 2, 0⟩
def d5 : Wd := ⟨true, false, true, 3, 10, 2, 0⟩
def d6 : Wd := ⟨true, false, true, 3, 10, 2, 4⟩
def d7 : Wd := ⟨true, false, false, 3, 10, 3, 0⟩
def d8 : Wd := ⟨true, false, true, 3, 10, 3, 0⟩
def d9 : Wd := ⟨true, false, false, 3, 10, 10, 2⟩
theorem d_a : wz.sto 4 3 = d1 := rfl
theorem d_b : d1.sto 8 10 = d2 := rfl
theorem d_c : d2.sto 0 1 = d3 := rfl
theorem d_d : d3.tick 2 = d4 := rfl
theorem d_e : d4.sto 12 23130 = d5 := rfl
theorem d_f : d5.sto 12 42405 = d6 := rfl
theorem d_g : d4.tick 1 = d7 := rfl
theorem d_h : d7.sto 12 23130 = d8 := rfl
theorem d_i : d8.sto 12 42405 = d3 := rfl
theorem d_j : d3.tick 20 = d9 := rfl
theorem d_r : d3.ran 20 = 10 := rfl
theorem d1_ok : d1.ok := d_a ▸ Wd.sto_ok wz_ok (by omega) (by omega)
theorem d2_ok : d2.ok := d_b ▸ Wd.sto_ok d1_ok (by omega) (by omega)
theorem d3_ok : d3.ok := d_c ▸ Wd.sto_ok d2_ok (by omega) (by omega)
theorem d4_ok : d4.ok := d_d ▸ Wd.tick_ok d3_ok (by omega)
theorem d5_ok : d5.ok := d_e ▸ Wd.sto_ok d4_ok (by omega) (by omega)
theorem d7_ok : d7.ok := d_g ▸ Wd.tick_ok d4_ok (by omega)
theorem d8_ok : d8.ok := d_h ▸ Wd.sto_ok d7_ok (by omega) (by omega)
set_option maxHeartbeats 1600000 in
theorem dKnown (w : World) : Calls Try.prog 11 #[] w fun e w' => e = .returned (.bool true) ∧ Below w.heap.size w w' := by
  go_enter Try.func11, Try.ntmps11
  go_wp2_with fail
  refine (dNew w).mono ?_
  rintro e w1 ⟨rfl, rfl⟩
  have a : DAt (w.alloc (.cells (dl wz).toArray tD (0, 0))) w.heap.size wz := blk_new w (.cells (dl wz).toArray tD (0, 0))
  have b := trA (tr0 w) (.cells (dl wz).toArray tD (0, 0))
  generalize w.alloc (.cells (dl wz).toArray tD (0, 0)) = W at *
  go_wp2_with fail
  refine (dStore wz 4 3 _ _ wz_ok a (by omega) (by omega) (by omega) (by omega)).mono ?_
  rw [d_a, show wSErr 4 = 0 from rfl]
  rintro e w2 ⟨rfl, a2, ho⟩
  have b2 := off_below8 b ho (Nat.le_refl _)
  clear a b ho
  go_wp2_with fail
  refine (dStore d1 8 10 _ _ d1_ok a2 (by omega) (by omega) (by omega) (by omega)).mono ?_
  rw [d_b, show wSErr 8 = 0 from rfl]
  rintro e w3 ⟨rfl, a3, ho⟩
  have b3 := off_below8 b2 ho (Nat.le_refl _)
  clear a2 b2 ho
  go_wp2_with fail
  refine (dStore d2 0 1 _ _ d2_ok a3 (by omega) (by omega) (by omega) (by omega)).mono ?_
  rw [d_c, show wSErr 0 = 0 from rfl]
  rintro e w4 ⟨rfl, a4, ho⟩
  have b4 := off_below8 b3 ho (Nat.le_refl _)
  clear a3 b3 ho
  go_wp2_with fail
  refine (dTick d3 2 _ _ d3_ok a4 (by omega) (by omega)).mono ?_
  rw [d_d]
  rintro e w5 ⟨rfl, a5, ho⟩
  have b5 := off_below8 b4 ho (Nat.le_refl _)
  clear a4 b4 ho
  go_wp2_with fail
  refine (dCopy d4 _ _ a5).mono ?_
  rintro e w6 ⟨rfl, c6, hb⟩
  have a6 := a5.below hb
  have b6 := tr b5 hb
  have hlt := a5.lt
  clear a5 b5 hb
  generalize w5.heap.size = q at *
  have hq : q ≠ w.heap.size := by omega
  go_wp2_with fail
  refine (dStore d4 12 23130 _ _ d4_ok c6 (by omega) (by omega) (by omega) (by omega)).mono ?_
  rw [d_e, show wSErr 12 = 0 from rfl]
  rintro e w7 ⟨rfl, c7, ho⟩
  have a7 := a6.off ho (fun e => hq e.symm)
  have b7 := off_below8 b6 ho (by omega)
  clear a6 b6 c6 ho
  go_wp2_with fail
  refine (dStore d5 12 42405 _ _ d5_ok c7 (by omega) (by omega) (by omega) (by omega)).mono ?_
  rw [d_f, show wSErr 12 = 0 from rfl]
  rintro e w8 ⟨rfl, c8, ho⟩
  have a8 := a7.off ho (fun e => hq e.symm)
  have b8 := off_below8 b7 ho (by omega)
  clear a7 b7 c7 ho
  go_wp2_with fail
  refine (dTick d4 1 _ _ d4_ok a8 (by omega) (by omega)).mono ?_
  rw [d_g]
  rintro e w9 ⟨rfl, a9, ho⟩
  have c9 := c8.off ho hq
  have b9 := off_below8 b8 ho (Nat.le_refl _)
  clear a8 b8 c8 ho
  go_wp2_with fail
  refine (dStore d7 12 23130 _ _ d7_ok a9 (by omega) (by omega) (by omega) (by omega)).mono ?_
  rw [d_h, show wSErr 12 = 0 from rfl]
  rintro e w10 ⟨rfl, a10, ho⟩
  have c10 := c9.off ho hq
  have b10 := off_below8 b9 ho (Nat.le_refl _)
  clear a9 b9 c9 ho
  go_wp2_with fail
  refine (dStore d8 12 42405 _ _ d8_ok a10 (by omega) (by omega) (by omega) (by omega)).mono ?_
  rw [d_i, show wSErr 12 = 0 from rfl]
  rintro e w11 ⟨rfl, a11, ho⟩
  have c11 := c10.off ho hq
  have b11 := off_below8 b10 ho (Nat.le_refl _)
  clear a10 b10 c10 ho
  go_wp2_with fail
  refine (dSince d3 _ _ a11).mono ?_
  rintro e w' ⟨rfl, rfl⟩
  go_wp2_with fail
  refine (dFault d3 _ _ a11).mono ?_
  rintro e w' ⟨rfl, rfl⟩
  go_wp2_with fail
  refine (dFault d6 _ _ c11).mono ?_
  rintro e w' ⟨rfl, rfl⟩
  go_wp2_with fail
  refine (dTick d3 20 _ _ d3_ok a11 (by omega) (by omega)).mono ?_
  rw [d_j, d_r]
  rintro e w12 ⟨rfl, a12, ho⟩
  have b12 := off_below8 b11 ho (Nat.le_refl _)
  clear a11 b11 c11 ho
  go_wp2_with fail
  refine (dFault d9 _ _ a12).mono ?_
  rintro e w' ⟨rfl, rfl⟩
  go_wp2_with fail
  go_ret
  exact ⟨rfl, b12⟩
set_option maxHeartbeats 1600000 in
theorem wWdogNil (v0 v1 v2 : Value) (w : World) (h0 : FitsV w (.int .u32) v0) (h1 : FitsV w (.int .u32) v1) (h2 : FitsV w (.int .u64) v2) :
    Calls Try.prog 6 #[v0, v1, v2] w fun e w' => e = .returned (.bool true) ∧ Below w.heap.size w w' := by
  obtain ⟨o, rfl, o0, o1⟩ := fits_u32 h0
  obtain ⟨v, rfl, v0, v1⟩ := fits_u32 h1
  obtain ⟨n, rfl, n0, n1⟩ := fits_u64 h2
  go_enter Try.func6, Try.ntmps6
  go_wp2_with fail
  refine (dResetNil _).mono ?_
  rintro e w' ⟨rfl, rfl⟩
  go_wp2_with fail
  refine (dLoadNil o _ o0 o1).mono ?_
  rintro e w' ⟨rfl, rfl⟩
  go_wp2_with fail
  refine (dKnown _).mono ?_
  rintro e w1 ⟨rfl, hb⟩
  go_wp2_with fail
  refine (dTickNil n _).mono ?_
  rintro e w' ⟨rfl, rfl⟩
  go_wp2_with fail
  refine (dFaultNil _).mono ?_
  rintro e w' ⟨rfl, rfl⟩
  go_wp2_with fail
  refine (dEnabledNil _).mono ?_
  rintro e w' ⟨rfl, rfl⟩
  go_wp2_with fail
  refine (dLockedNil _).mono ?_
  rintro e w' ⟨rfl, rfl⟩
  go_wp2_with fail
  refine (dArmedNil _).mono ?_
  rintro e w' ⟨rfl, rfl⟩
  go_wp2_with fail
  refine (dSinceNil _).mono ?_
  rintro e w' ⟨rfl, rfl⟩
  go_wp2_with fail
  refine (dLeftNil _).mono ?_
  rintro e w' ⟨rfl, rfl⟩
  go_wp2_with fail
  refine (dStoreNil o v _ o0 o1).mono ?_
  rintro e w' ⟨rfl, rfl⟩
  go_wp2_with fail
  refine (dCopyNil _).mono ?_
  rintro e w' ⟨rfl, rfl⟩
  go_wp2_with fail
  go_ret
  exact ⟨rfl, hb⟩
end Go.Proofs.Ytlgdlmhgifhchaa.B
