/- Several texts in one: BoardWires: a theorem for each place. BoardWires: whichever. -/
import Derived.Test.YtcgmnjajodegmaaGreatZNbk
import Derived.Test.YtcgmnjajodegmaaGreatZNbl
import Derived.Test.YtcgmnjajodegmaaGreatZNbm
import Derived.Test.YtcgmnjajodegmaaGreatZNbn
import Derived.Test.YtcgmnjajodegmaaGreatZNO
namespace Go.Proofs.YtcgmnjajodegmaaGreat.B
set_option linter.unusedVariables false
set_option linter.unusedSimpArgs false
set_option maxRecDepth 100000
open Go.ChangeShapes Go.WideShapes Go.RowKit Go.Sort
def kw30_0 : Bx := bx0 1
theorem kw30_0_e : kw30_0.es.length < 4294967296 := by decide +kernel
def kw30_1 : Bx := kw30_0.sto 8 8 268697616 2
theorem kw30_1_e : kw30_1.es.length < 4294967296 := by decide +kernel
def kw30_2 : Bx := kw30_1.sto 8 8 268697624 1
theorem kw30_2_e : kw30_2.es.length < 4294967296 := by decide +kernel
def kw30_3 : Bx := kw30_2.tick 2
theorem kw30_3_e : kw30_3.es.length < 4294967296 := by decide +kernel
theorem kw30_s0 : Bx.ste 8 8 268697616 = 0 := by decide +kernel
theorem kw30_s1 : Bx.ste 8 8 268697624 = 0 := by decide +kernel
theorem kw30_h0 : wires 8 8 kw30_0 = 0 := by decide +kernel
theorem kw30_h : wires 8 8 kw30_3 = 65536 := by decide +kernel
theorem kw30_v : kw30_3.ldv 8 8 268763136 = 65536 := by decide +kernel
theorem kw30_l : Bx.lde 8 8 268763136 = 0 := by decide +kernel
theorem kw30_o : outB 65536 kw30_3.msk = false := by decide +kernel
theorem kw30_t : Bx.ste 8 8 268763140 = 0 := by decide +kernel
theorem kw30_p : outB (wires 8 8 (kw30_3.sto 8 8 268763140 65536)) (kw30_3.sto 8 8 268763140 65536).msk = true := by decide +kernel
set_option maxHeartbeats 3200000 in
theorem wires30 (q i : Int) (w : World) (hq : (IntKind.u64.wrap q).tmod 4 = 3) :
    Calls Tryz.prog 7 #[.int .i64 q, .int .i64 i] w fun e w' => e = .returned (.bool true) ∧ Below w.heap.size w w' := by
  have HNW := Lib.hid (hNew 8 8 1 w (by decide) (by decide) (by decide) (by decide) (by decide) (by decide))
  go_enter Tryz.func7, Tryz.ntmps7
  go_wp2_with fail
  refine (HNW.out).mono ?_
  rintro e w1 ⟨b, rfl, H1, b1⟩
  have HH := Lib.hid (show Has w.heap.size w1 b 8 8 1 kw30_0 from H1)
  have HB := Lib.hid b1
  clear H1 b1 HNW
  go_wp2_with fail
  refine (hHigh HH.out).mono ?_
  rw [kw30_h0]
  rintro e w2 ⟨rfl, b1⟩
  have HH := Lib.hid (HH.out.below b1)
  have HB := Lib.hid (tr HB.out b1)
  clear b1
  go_wp2_with fail
  refine (hStore HH.out HB.out.size 268697616 2 (by decide) (by decide) (by decide) (by decide) kw30_0_e).mono ?_
  rw [kw30_s0]
  rintro e w3 ⟨rfl, H1, b1⟩
  have HH := Lib.hid (show Has w.heap.size w3 b 8 8 1 kw30_1 from H1)
  have HB := Lib.hid (HB.out.trans b1)
  clear H1 b1
  go_wp2_with fail
  refine (hStore HH.out HB.out.size 268697624 1 (by decide) (by decide) (by decide) (by decide) kw30_1_e).mono ?_
  rw [kw30_s1]
  rintro e w3 ⟨rfl, H1, b1⟩
  have HH := Lib.hid (show Has w.heap.size w3 b 8 8 1 kw30_2 from H1)
  have HB := Lib.hid (HB.out.trans b1)
  clear H1 b1
  go_wp2_with fail
  refine (hTick HH.out HB.out.size 2 (by decide) (by decide) kw30_2_e).mono ?_
  rintro e w3 ⟨rfl, H1, b1⟩
  have HH := Lib.hid (show Has w.heap.size w3 b 8 8 1 kw30_3 from H1)
  have HB := Lib.hid (HB.out.trans b1)
  clear H1 b1
  go_wp2_with fail
  refine (hLoad HH.out 268763136 (by decide) (by decide)).mono ?_
  rw [kw30_v, kw30_l]
  rintro e w6 ⟨rfl, b1⟩
  have HH := Lib.hid (HH.out.below b1)
  have HB := Lib.hid (tr HB.out b1)
  clear b1
  go_wp2_with fail
  refine (hHigh HH.out).mono ?_
  rw [kw30_h]
  rintro e w7 ⟨rfl, b1⟩
  have HH := Lib.hid (HH.out.below b1)
  have HB := Lib.hid (tr HB.out b1)
  clear b1
  go_wp2_with fail
  refine (hOut HH.out).mono ?_
  rw [kw30_h, kw30_o]
  rintro e w8 ⟨rfl, b1⟩
  have HH := Lib.hid (HH.out.below b1)
  have HB := Lib.hid (tr HB.out b1)
  clear b1
  go_wp2_with fail
  refine (hStore HH.out HB.out.size 268763140 65536 (by decide) (by decide) (by decide) (by decide) kw30_3_e).mono ?_
  rw [kw30_t]
  rintro e w9 ⟨rfl, H1, b1⟩
  have HH := Lib.hid H1
  have HB := Lib.hid (HB.out.trans b1)
  clear H1 b1
  go_wp2_with fail
  refine (bdKnown _).mono ?_
  rintro e w10 ⟨rfl, b1⟩
  have HH := Lib.hid (HH.out.below b1)
  have HB := Lib.hid (tr HB.out b1)
  clear b1
  go_wp2_with fail
  refine (hOut HH.out).mono ?_
  rw [kw30_p]
  rintro e w11 ⟨rfl, b1⟩
  have HB := Lib.hid (tr HB.out b1)
  clear b1 HH
  go_wp2_with fail
  go_ret
  exact ⟨rfl, HB.out⟩
end Go.Proofs.YtcgmnjajodegmaaGreat.B
namespace Go.Proofs.YtcgmnjajodegmaaGreat.B
set_option linter.unusedVariables false
set_option linter.unusedSimpArgs false
set_option maxRecDepth 100000
open Go.ChangeShapes Go.WideShapes Go.RowKit Go.Sort
theorem tmod_cases (a m : Int) (m0 : 0 < m) : 0 ≤ (IntKind.u64.wrap a).tmod m ∧ (IntKind.u64.wrap a).tmod m < m := by
  have h0 : 0 ≤ IntKind.u64.wrap a := by have := bounds_u64 (wf_wrap .u64 a); omega
  rw [Int.tmod_eq_emod_of_nonneg h0]
  exact ⟨Int.emod_nonneg _ (by omega), Int.emod_lt_of_pos _ m0⟩
theorem boardWires (q i : Int) (w : World) : Calls Tryz.prog 7 #[.int .i64 q, .int .i64 i] w fun e w' => e = .returned (.bool true) ∧ Below w.heap.size w w' := by
  obtain ⟨q0, q1⟩ := tmod_cases q 4 (by decide)
  obtain ⟨i0, i1⟩ := tmod_cases i 8 (by decide)
  have hi : (IntKind.u64.wrap i).tmod 8 = 0 ∨ (IntKind.u64.wrap i).tmod 8 = 1 ∨ (IntKind.u64.wrap i).tmod 8 = 2 ∨ (IntKind.u64.wrap i).tmod 8 = 3 ∨ (IntKind.u64.wrap i).tmod 8 = 4 ∨ (IntKind.u64.wrap i).tmod 8 = 5 ∨ (IntKind.u64.wrap i).tmod 8 = 6 ∨ (IntKind.u64.wrap i).tmod 8 = 7 := by omega
  have hq : (IntKind.u64.wrap q).tmod 4 = 0 ∨ (IntKind.u64.wrap q).tmod 4 = 1 ∨ (IntKind.u64.wrap q).tmod 4 = 2 ∨ (IntKind.u64.wrap q).tmod 4 = 3 := by omega
  rcases hq with h | h | h | h
  · rcases hi with g | g | g | g | g | g | g | g
    · exact wires00 q i w h g
    · exact wires01 q i w h g
    · exact wires02 q i w h g
    · exact wires03 q i w h g
    · exact wires04 q i w h g
    · exact wires05 q i w h g
    · exact wires06 q i w h g
    · exact wires07 q i w h g
  · rcases hi with g | g | g | g | g | g | g | g
    · exact wires10 q i w h g
    · exact wires11 q i w h g
    · exact wires12 q i w h g
    · exact wires13 q i w h g
    · exact wires14 q i w h g
    · exact wires15 q i w h g
    · exact wires16 q i w h g
    · exact wires17 q i w h g
  · rcases hi with g | g | g | g | g | g | g | g
    · exact wires20 q i w h g
    · exact wires21 q i w h g
    · exact wires22 q i w h g
    · exact wires23 q i w h g
    · exact wires24 q i w h g
    · exact wires25 q i w h g
    · exact wires26 q i w h g
    · exact wires27 q i w h g
  · exact wires30 q i w h
theorem wBoardWires (v0 v1 : Value) (w : World) (h0 : FitsV w (.int .i64) v0) (h1 : FitsV w (.int .i64) v1) :
    Calls Tryz.prog 7 #[v0, v1] w fun e w' => e = .returned (.bool true) ∧ Below w.heap.size w w' := by
  obtain ⟨q, rfl, a0, a1⟩ := fits_i64 h0
  obtain ⟨i, rfl, a2, a3⟩ := fits_i64 h1
  exact boardWires q i w
end Go.Proofs.YtcgmnjajodegmaaGreat.B
