/- BoardWires: a theorem for each place. -/
import Derived.Test.YtcgmnjajodegmaaGreatZNbk
namespace Go.Proofs.YtcgmnjajodegmaaGreat.B
set_option linter.unusedVariables false
set_option linter.unusedSimpArgs false
set_option maxRecDepth 100000
open Go.ChangeShapes Go.WideShapes Go.RowKit Go.Sort
def kw00_0 : Bx := bx0 1
theorem kw00_0_e : kw00_0.es.length < 4294967296 := by decide +kernel
def kw00_1 : Bx := kw00_0.sto 8 8 33570816 5
theorem kw00_1_e : kw00_1.es.length < 4294967296 := by decide +kernel
def kw00_2 : Bx := kw00_1.sto 8 8 33570820 0
theorem kw00_2_e : kw00_2.es.length < 4294967296 := by decide +kernel
def kw00_3 : Bx := kw00_2.tick 5
theorem kw00_3_e : kw00_3.es.length < 4294967296 := by decide +kernel
theorem kw00_s0 : Bx.ste 8 8 33570816 = 0 := by decide +kernel
theorem kw00_s1 : Bx.ste 8 8 33570820 = 0 := by decide +kernel
theorem kw00_h0 : wires 8 8 kw00_0 = 0 := by decide +kernel
theorem kw00_h : wires 8 8 kw00_3 = 1 := by decide +kernel
theorem kw00_v : kw00_3.ldv 8 8 268763136 = 1 := by decide +kernel
theorem kw00_l : Bx.lde 8 8 268763136 = 0 := by decide +kernel
theorem kw00_o : outB 1 kw00_3.msk = false := by decide +kernel
theorem kw00_t : Bx.ste 8 8 268763140 = 0 := by decide +kernel
theorem kw00_p : outB (wires 8 8 (kw00_3.sto 8 8 268763140 1)) (kw00_3.sto 8 8 268763140 1).msk = true := by decide +kernel
set_option maxHeartbeats 3200000 in
theorem wires00 (q i : Int) (w : World) (hq : (IntKind.u64.wrap q).tmod 4 = 0) (hk : (IntKind.u64.wrap i).tmod 8 = 0) :
    Calls Tryz.prog 7 #[.int .i64 q, .int .i64 i] w fun e w' => e = .returned (.bool true) ∧ Below w.heap.size w w' := by
  have HNW := Lib.hid (hNew 8 8 1 w (by decide) (by decide) (by decide) (by decide) (by decide) (by decide))
  go_enter Tryz.func7, Tryz.ntmps7
  go_wp2_with fail
  refine (HNW.out).mono ?_
  rintro e w1 ⟨b, rfl, H1, b1⟩
  have HH := Lib.hid (show Has w.heap.size w1 b 8 8 1 kw00_0 from H1)
  have HB := Lib.hid b1
  clear H1 b1 HNW
  go_wp2_with fail
  refine (hHigh HH.out).mono ?_
  rw [kw00_h0]
  rintro e w2 ⟨rfl, b1⟩
  have HH := Lib.hid (HH.out.below b1)
  have HB := Lib.hid (tr HB.out b1)
  clear b1
  go_wp2_with fail
  refine (hStore HH.out HB.out.size 33570816 5 (by decide) (by decide) (by decide) (by decide) kw00_0_e).mono ?_
  rw [kw00_s0]
  rintro e w3 ⟨rfl, H1, b1⟩
  have HH := Lib.hid (show Has w.heap.size w3 b 8 8 1 kw00_1 from H1)
  have HB := Lib.hid (HB.out.trans b1)
  clear H1 b1
  go_wp2_with fail
  refine (hStore HH.out HB.out.size 33570820 0 (by decide) (by decide) (by decide) (by decide) kw00_1_e).mono ?_
  rw [kw00_s1]
  rintro e w3 ⟨rfl, H1, b1⟩
  have HH := Lib.hid (show Has w.heap.size w3 b 8 8 1 kw00_2 from H1)
  have HB := Lib.hid (HB.out.trans b1)
  clear H1 b1
  go_wp2_with fail
  refine (hTick HH.out HB.out.size 5 (by decide) (by decide) kw00_2_e).mono ?_
  rintro e w3 ⟨rfl, H1, b1⟩
  have HH := Lib.hid (show Has w.heap.size w3 b 8 8 1 kw00_3 from H1)
  have HB := Lib.hid (HB.out.trans b1)
  clear H1 b1
  go_wp2_with fail
  refine (hLoad HH.out 268763136 (by decide) (by decide)).mono ?_
  rw [kw00_v, kw00_l]
  rintro e w6 ⟨rfl, b1⟩
  have HH := Lib.hid (HH.out.below b1)
  have HB := Lib.hid (tr HB.out b1)
  clear b1
  go_wp2_with fail
  refine (hHigh HH.out).mono ?_
  rw [kw00_h]
  rintro e w7 ⟨rfl, b1⟩
  have HH := Lib.hid (HH.out.below b1)
  have HB := Lib.hid (tr HB.out b1)
  clear b1
  go_wp2_with fail
  refine (hOut HH.out).mono ?_
  rw [kw00_h, kw00_o]
  rintro e w8 ⟨rfl, b1⟩
  have HH := Lib.hid (HH.out.below b1)
  have HB := Lib.hid (tr HB.out b1)
  clear b1
  go_wp2_with fail
  refine (hStore HH.out HB.out.size 268763140 1 (by decide) (by decide) (by decide) (by decide) kw00_3_e).mono ?_
  rw [kw00_t]
  rintro e w9 ⟨rfl, H1, b1⟩
  have HH := Lib.hid H1
  have HB := Lib.hid (HB.out.trans b1)
  clear H1 b1
  go_wp2_with fail
  refine (bdKnown _).mono ?_
  rintro e w10 ⟨rfl, b1⟩
  have HH := Lib.hid (HH.out.below b1)
  have HB := Lib.hid (tr HB.out b1)
  clear b1
  go_wp2_with fail
  refine (hOut HH.out).mono ?_
  rw [kw00_p]
  rintro e w11 ⟨rfl, b1⟩
  have HB := Lib.hid (tr HB.out b1)
  clear b1 HH
  go_wp2_with fail
  go_ret
  exact ⟨rfl, HB.out⟩
def kw01_0 : Bx := bx0 1
theorem kw01_0_e : kw01_0.es.length < 4294967296 := by decide +kernel
def kw01_1 : Bx := kw01_0.sto 8 8 33570824 5
theorem kw01_1_e : kw01_1.es.length < 4294967296 := by decide +kernel
def kw01_2 : Bx := kw01_1.sto 8 8 33570828 0
theorem kw01_2_e : kw01_2.es.length < 4294967296 := by decide +kernel
def kw01_3 : Bx := kw01_2.tick 5
theorem kw01_3_e : kw01_3.es.length < 4294967296 := by decide +kernel
theorem kw01_s0 : Bx.ste 8 8 33570824 = 0 := by decide +kernel
theorem kw01_s1 : Bx.ste 8 8 33570828 = 0 := by decide +kernel
theorem kw01_h0 : wires 8 8 kw01_0 = 0 := by decide +kernel
theorem kw01_h : wires 8 8 kw01_3 = 2 := by decide +kernel
theorem kw01_v : kw01_3.ldv 8 8 268763136 = 2 := by decide +kernel
theorem kw01_l : Bx.lde 8 8 268763136 = 0 := by decide +kernel
theorem kw01_o : outB 2 kw01_3.msk = false := by decide +kernel
theorem kw01_t : Bx.ste 8 8 268763140 = 0 := by decide +kernel
theorem kw01_p : outB (wires 8 8 (kw01_3.sto 8 8 268763140 2)) (kw01_3.sto 8 8 268763140 2).msk = true := by decide +kernel
set_option maxHeartbeats 3200000 in
theorem wires01 (q i : Int) (w : World) (hq : (IntKind.u64.wrap q).tmod 4 = 0) (hk : (IntKind.u64.wrap i).tmod 8 = 1) :
    Calls Tryz.prog 7 #[.int .i64 q, .int .i64 i] w fun e w' => e = .returned (.bool true) ∧ Below w.heap.size w w' := by
  have HNW := Lib.hid (hNew 8 8 1 w (by decide) (by decide) (by decide) (by decide) (by decide) (by decide))
  go_enter Tryz.func7, Tryz.ntmps7
  go_wp2_with fail
  refine (HNW.out).mono ?_
  rintro e w1 ⟨b, rfl, H1, b1⟩
  have HH := Lib.hid (show Has w.heap.size w1 b 8 8 1 kw01_0 from H1)
  have HB := Lib.hid b1
  clear H1 b1 HNW
  go_wp2_with fail
  refine (hHigh HH.out).mono ?_
  rw [kw01_h0]
  rintro e w2 ⟨rfl, b1⟩
  have HH := Lib.hid (HH.out.below b1)
  have HB := Lib.hid (tr HB.out b1)
  clear b1
  go_wp2_with fail
  refine (hStore HH.out HB.out.size 33570824 5 (by decide) (by decide) (by decide) (by decide) kw01_0_e).mono ?_
  rw [kw01_s0]
  rintro e w3 ⟨rfl, H1, b1⟩
  have HH := Lib.hid (show Has w.heap.size w3 b 8 8 1 kw01_1 from H1)
  have HB := Lib.hid (HB.out.trans b1)
  clear H1 b1
  go_wp2_with fail
  refine (hStore HH.out HB.out.size 33570828 0 (by decide) (by decide) (by decide) (by decide) kw01_1_e).mono ?_
  rw [kw01_s1]
  rintro e w3 ⟨rfl, H1, b1⟩
  have HH := Lib.hid (show Has w.heap.size w3 b 8 8 1 kw01_2 from H1)
  have HB := Lib.hid (HB.out.trans b1)
  clear H1 b1
  go_wp2_with fail
  refine (hTick HH.out HB.out.size 5 (by decide) (by decide) kw01_2_e).mono ?_
  rintro e w3 ⟨rfl, H1, b1⟩
  have HH := Lib.hid (show Has w.heap.size w3 b 8 8 1 kw01_3 from H1)
  have HB := Lib.hid (HB.out.trans b1)
  clear H1 b1
  go_wp2_with fail
  refine (hLoad HH.out 268763136 (by decide) (by decide)).mono ?_
  rw [kw01_v, kw01_l]
  rintro e w6 ⟨rfl, b1⟩
  have HH := Lib.hid (HH.out.below b1)
  have HB := Lib.hid (tr HB.out b1)
  clear b1
  go_wp2_with fail
  refine (hHigh HH.out).mono ?_
  rw [kw01_h]
  rintro e w7 ⟨rfl, b1⟩
  have HH := Lib.hid (HH.out.below b1)
  have HB := Lib.hid (tr HB.out b1)
  clear b1
  go_wp2_with fail
  refine (hOut HH.out).mono ?_
  rw [kw01_h, kw01_o]
  rintro e w8 ⟨rfl, b1⟩
  have HH := Lib.hid (HH.out.below b1)
  have HB := Lib.hid (tr HB.out b1)
  clear b1
  go_wp2_with fail
  refine (hStore HH.out HB.out.size 268763140 2 (by decide) (by decide) (by decide) (by decide) kw01_3_e).mono ?_
  rw [kw01_t]
  rintro e w9 ⟨rfl, H1, b1⟩
  have HH := Lib.hid H1
  have HB := Lib.hid (HB.out.trans b1)
  clear H1 b1
  go_wp2_with fail
  refine (bdKnown _).mono ?_
  rintro e w10 ⟨rfl, b1⟩
  have HH := Lib.hid (HH.out.below b1)
  have HB := Lib.hid (tr HB.out b1)
  clear b1
  go_wp2_with fail
  refine (hOut HH.out).mono ?_
  rw [kw01_p]
  rintro e w11 ⟨rfl, b1⟩
  have HB := Lib.hid (tr HB.out b1)
  clear b1 HH
  go_wp2_with fail
  go_ret
  exact ⟨rfl, HB.out⟩
def kw02_0 : Bx := bx0 1
theorem kw02_0_e : kw02_0.es.length < 4294967296 := by decide +kernel
def kw02_1 : Bx := kw02_0.sto 8 8 33570832 5
theorem kw02_1_e : kw02_1.es.length < 4294967296 := by decide +kernel
def kw02_2 : Bx := kw02_1.sto 8 8 33570836 0
theorem kw02_2_e : kw02_2.es.length < 4294967296 := by decide +kernel
def kw02_3 : Bx := kw02_2.tick 5
theorem kw02_3_e : kw02_3.es.length < 4294967296 := by decide +kernel
theorem kw02_s0 : Bx.ste 8 8 33570832 = 0 := by decide +kernel
theorem kw02_s1 : Bx.ste 8 8 33570836 = 0 := by decide +kernel
theorem kw02_h0 : wires 8 8 kw02_0 = 0 := by decide +kernel
theorem kw02_h : wires 8 8 kw02_3 = 4 := by decide +kernel
theorem kw02_v : kw02_3.ldv 8 8 268763136 = 4 := by decide +kernel
theorem kw02_l : Bx.lde 8 8 268763136 = 0 := by decide +kernel
theorem kw02_o : outB 4 kw02_3.msk = false := by decide +kernel
theorem kw02_t : Bx.ste 8 8 268763140 = 0 := by decide +kernel
theorem kw02_p : outB (wires 8 8 (kw02_3.sto 8 8 268763140 4)) (kw02_3.sto 8 8 268763140 4).msk = true := by decide +kernel
set_option maxHeartbeats 3200000 in
theorem wires02 (q i : Int) (w : World) (hq : (IntKind.u64.wrap q).tmod 4 = 0) (hk : (IntKind.u64.wrap i).tmod 8 = 2) :
    Calls Tryz.prog 7 #[.int .i64 q, .int .i64 i] w fun e w' => e = .returned (.bool true) ∧ Below w.heap.size w w' := by
  have HNW := Lib.hid (hNew 8 8 1 w (by decide) (by decide) (by decide) (by decide) (by decide) (by decide))
  go_enter Tryz.func7, Tryz.ntmps7
  go_wp2_with fail
  refine (HNW.out).mono ?_
  rintro e w1 ⟨b, rfl, H1, b1⟩
  have HH := Lib.hid (show Has w.heap.size w1 b 8 8 1 kw02_0 from H1)
  have HB := Lib.hid b1
  clear H1 b1 HNW
  go_wp2_with fail
  refine (hHigh HH.out).mono ?_
  rw [kw02_h0]
  rintro e w2 ⟨rfl, b1⟩
  have HH := Lib.hid (HH.out.below b1)
  have HB := Lib.hid (tr HB.out b1)
  clear b1
  go_wp2_with fail
  refine (hStore HH.out HB.out.size 33570832 5 (by decide) (by decide) (by decide) (by decide) kw02_0_e).mono ?_
  rw [kw02_s0]
  rintro e w3 ⟨rfl, H1, b1⟩
  have HH := Lib.hid (show Has w.heap.size w3 b 8 8 1 kw02_1 from H1)
  have HB := Lib.hid (HB.out.trans b1)
  clear H1 b1
  go_wp2_with fail
  refine (hStore HH.out HB.out.size 33570836 0 (by decide) (by decide) (by decide) (by decide) kw02_1_e).mono ?_
  rw [kw02_s1]
  rintro e w3 ⟨rfl, H1, b1⟩
  have HH := Lib.hid (show Has w.heap.size w3 b 8 8 1 kw02_2 from H1)
  have HB := Lib.hid (HB.out.trans b1)
  clear H1 b1
  go_wp2_with fail
  refine (hTick HH.out HB.out.size 5 (by decide) (by decide) kw02_2_e).mono ?_
  rintro e w3 ⟨rfl, H1, b1⟩
  have HH := Lib.hid (show Has w.heap.size w3 b 8 8 1 kw02_3 from H1)
  have HB := Lib.hid (HB.out.trans b1)
  clear H1 b1
  go_wp2_with fail
  refine (hLoad HH.out 268763136 (by decide) (by decide)).mono ?_
  rw [kw02_v, kw02_l]
  rintro e w6 ⟨rfl, b1⟩
  have HH := Lib.hid (HH.out.below b1)
  have HB := Lib.hid (tr HB.out b1)
  clear b1
  go_wp2_with fail
  refine (hHigh HH.out).mono ?_
  rw [kw02_h]
  rintro e w7 ⟨rfl, b1⟩
  have HH := Lib.hid (HH.out.below b1)
  have HB := Lib.hid (tr HB.out b1)
  clear b1
  go_wp2_with fail
  refine (hOut HH.out).mono ?_
  rw [kw02_h, kw02_o]
  rintro e w8 ⟨rfl, b1⟩
  have HH := Lib.hid (HH.out.below b1)
  have HB := Lib.hid (tr HB.out b1)
  clear b1
  go_wp2_with fail
  refine (hStore HH.out HB.out.size 268763140 4 (by decide) (by decide) (by decide) (by decide) kw02_3_e).mono ?_
  rw [kw02_t]
  rintro e w9 ⟨rfl, H1, b1⟩
  have HH := Lib.hid H1
  have HB := Lib.hid (HB.out.trans b1)
  clear H1 b1
  go_wp2_with fail
  refine (bdKnown _).mono ?_
  rintro e w10 ⟨rfl, b1⟩
  have HH := Lib.hid (HH.out.below b1)
  have HB := Lib.hid (tr HB.out b1)
  clear b1
  go_wp2_with fail
  refine (hOut HH.out).mono ?_
  rw [kw02_p]
  rintro e w11 ⟨rfl, b1⟩
  have HB := Lib.hid (tr HB.out b1)
  clear b1 HH
  go_wp2_with fail
  go_ret
  exact ⟨rfl, HB.out⟩
def kw03_0 : Bx := bx0 1
theorem kw03_0_e : kw03_0.es.length < 4294967296 := by decide +kernel
def kw03_1 : Bx := kw03_0.sto 8 8 33570840 5
theorem kw03_1_e : kw03_1.es.length < 4294967296 := by decide +kernel
def kw03_2 : Bx := kw03_1.sto 8 8 33570844 0
theorem kw03_2_e : kw03_2.es.length < 4294967296 := by decide +kernel
def kw03_3 : Bx := kw03_2.tick 5
theorem kw03_3_e : kw03_3.es.length < 4294967296 := by decide +kernel
theorem kw03_s0 : Bx.ste 8 8 33570840 = 0 := by decide +kernel
theorem kw03_s1 : Bx.ste 8 8 33570844 = 0 := by decide +kernel
theorem kw03_h0 : wires 8 8 kw03_0 = 0 := by decide +kernel
theorem kw03_h : wires 8 8 kw03_3 = 8 := by decide +kernel
theorem kw03_v : kw03_3.ldv 8 8 268763136 = 8 := by decide +kernel
theorem kw03_l : Bx.lde 8 8 268763136 = 0 := by decide +kernel
theorem kw03_o : outB 8 kw03_3.msk = false := by decide +kernel
theorem kw03_t : Bx.ste 8 8 268763140 = 0 := by decide +kernel
theorem kw03_p : outB (wires 8 8 (kw03_3.sto 8 8 268763140 8)) (kw03_3.sto 8 8 268763140 8).msk = true := by decide +kernel
set_option maxHeartbeats 3200000 in
theorem wires03 (q i : Int) (w : World) (hq : (IntKind.u64.wrap q).tmod 4 = 0) (hk : (IntKind.u64.wrap i).tmod 8 = 3) :
    Calls Tryz.prog 7 #[.int .i64 q, .int .i64 i] w fun e w' => e = .returned (.bool true) ∧ Below w.heap.size w w' := by
  have HNW := Lib.hid (hNew 8 8 1 w (by decide) (by decide) (by decide) (by decide) (by decide) (by decide))
  go_enter Tryz.func7, Tryz.ntmps7
  go_wp2_with fail
  refine (HNW.out).mono ?_
  rintro e w1 ⟨b, rfl, H1, b1⟩
  have HH := Lib.hid (show Has w.heap.size w1 b 8 8 1 kw03_0 from H1)
  have HB := Lib.hid b1
  clear H1 b1 HNW
  go_wp2_with fail
  refine (hHigh HH.out).mono ?_
  rw [kw03_h0]
  rintro e w2 ⟨rfl, b1⟩
  have HH := Lib.hid (HH.out.below b1)
  have HB := Lib.hid (tr HB.out b1)
  clear b1
  go_wp2_with fail
  refine (hStore HH.out HB.out.size 33570840 5 (by decide) (by decide) (by decide) (by decide) kw03_0_e).mono ?_
  rw [kw03_s0]
  rintro e w3 ⟨rfl, H1, b1⟩
  have HH := Lib.hid (show Has w.heap.size w3 b 8 8 1 kw03_1 from H1)
  have HB := Lib.hid (HB.out.trans b1)
  clear H1 b1
  go_wp2_with fail
  refine (hStore HH.out HB.out.size 33570844 0 (by decide) (by decide) (by decide) (by decide) kw03_1_e).mono ?_
  rw [kw03_s1]
  rintro e w3 ⟨rfl, H1, b1⟩
  have HH := Lib.hid (show Has w.heap.size w3 b 8 8 1 kw03_2 from H1)
  have HB := Lib.hid (HB.out.trans b1)
  clear H1 b1
  go_wp2_with fail
  refine (hTick HH.out HB.out.size 5 (by decide) (by decide) kw03_2_e).mono ?_
  rintro e w3 ⟨rfl, H1, b1⟩
  have HH := Lib.hid (show Has w.heap.size w3 b 8 8 1 kw03_3 from H1)
  have HB := Lib.hid (HB.out.trans b1)
  clear H1 b1
  go_wp2_with fail
  refine (hLoad HH.out 268763136 (by decide) (by decide)).mono ?_
  rw [kw03_v, kw03_l]
  rintro e w6 ⟨rfl, b1⟩
  have HH := Lib.hid (HH.out.below b1)
  have HB := Lib.hid (tr HB.out b1)
  clear b1
  go_wp2_with fail
  refine (hHigh HH.out).mono ?_
  rw [kw03_h]
  rintro e w7 ⟨rfl, b1⟩
  have HH := Lib.hid (HH.out.below b1)
  have HB := Lib.hid (tr HB.out b1)
  clear b1
  go_wp2_with fail
  refine (hOut HH.out).mono ?_
  rw [kw03_h, kw03_o]
  rintro e w8 ⟨rfl, b1⟩
  have HH := Lib.hid (HH.out.below b1)
  have HB := Lib.hid (tr HB.out b1)
  clear b1
  go_wp2_with fail
  refine (hStore HH.out HB.out.size 268763140 8 (by decide) (by decide) (by decide) (by decide) kw03_3_e).mono ?_
  rw [kw03_t]
  rintro e w9 ⟨rfl, H1, b1⟩
  have HH := Lib.hid H1
  have HB := Lib.hid (HB.out.trans b1)
  clear H1 b1
  go_wp2_with fail
  refine (bdKnown _).mono ?_
  rintro e w10 ⟨rfl, b1⟩
  have HH := Lib.hid (HH.out.below b1)
  have HB := Lib.hid (tr HB.out b1)
  clear b1
  go_wp2_with fail
  refine (hOut HH.out).mono ?_
  rw [kw03_p]
  rintro e w11 ⟨rfl, b1⟩
  have HB := Lib.hid (tr HB.out b1)
  clear b1 HH
  go_wp2_with fail
  go_ret
  exact ⟨rfl, HB.out⟩
def kw04_0 : Bx := bx0 1
theorem kw04_0_e : kw04_0.es.length < 4294967296 := by decide +kernel
def kw04_1 : Bx := kw04_0.sto 8 8 33570848 5
theorem kw04_1_e : kw04_1.es.length < 4294967296 := by decide +kernel
def kw04_2 : Bx := kw04_1.sto 8 8 33570852 0
theorem kw04_2_e : kw04_2.es.length < 4294967296 := by decide +kernel
def kw04_3 : Bx := kw04_2.tick 5
theorem kw04_3_e : kw04_3.es.length < 4294967296 := by decide +kernel
theorem kw04_s0 : Bx.ste 8 8 33570848 = 0 := by decide +kernel
theorem kw04_s1 : Bx.ste 8 8 33570852 = 0 := by decide +kernel
theorem kw04_h0 : wires 8 8 kw04_0 = 0 := by decide +kernel
theorem kw04_h : wires 8 8 kw04_3 = 16 := by decide +kernel
theorem kw04_v : kw04_3.ldv 8 8 268763136 = 16 := by decide +kernel
theorem kw04_l : Bx.lde 8 8 268763136 = 0 := by decide +kernel
theorem kw04_o : outB 16 kw04_3.msk = false := by decide +kernel
theorem kw04_t : Bx.ste 8 8 268763140 = 0 := by decide +kernel
theorem kw04_p : outB (wires 8 8 (kw04_3.sto 8 8 268763140 16)) (kw04_3.sto 8 8 268763140 16).msk = true := by decide +kernel
set_option maxHeartbeats 3200000 in
theorem wires04 (q i : Int) (w : World) (hq : (IntKind.u64.wrap q).tmod 4 = 0) (hk : (IntKind.u64.wrap i).tmod 8 = 4) :
    Calls Tryz.prog 7 #[.int .i64 q, .int .i64 i] w fun e w' => e = .returned (.bool true) ∧ Below w.heap.size w w' := by
  have HNW := Lib.hid (hNew 8 8 1 w (by decide) (by decide) (by decide) (by decide) (by decide) (by decide))
  go_enter Tryz.func7, Tryz.ntmps7
  go_wp2_with fail
  refine (HNW.out).mono ?_
  rintro e w1 ⟨b, rfl, H1, b1⟩
  have HH := Lib.hid (show Has w.heap.size w1 b 8 8 1 kw04_0 from H1)
  have HB := Lib.hid b1
  clear H1 b1 HNW
  go_wp2_with fail
  refine (hHigh HH.out).mono ?_
  rw [kw04_h0]
  rintro e w2 ⟨rfl, b1⟩
  have HH := Lib.hid (HH.out.below b1)
  have HB := Lib.hid (tr HB.out b1)
  clear b1
  go_wp2_with fail
  refine (hStore HH.out HB.out.size 33570848 5 (by decide) (by decide) (by decide) (by decide) kw04_0_e).mono ?_
  rw [kw04_s0]
  rintro e w3 ⟨rfl, H1, b1⟩
  have HH := Lib.hid (show Has w.heap.size w3 b 8 8 1 kw04_1 from H1)
  have HB := Lib.hid (HB.out.trans b1)
  clear H1 b1
  go_wp2_with fail
  refine (hStore HH.out HB.out.size 33570852 0 (by decide) (by decide) (by decide) (by decide) kw04_1_e).mono ?_
  rw [kw04_s1]
  rintro e w3 ⟨rfl, H1, b1⟩
  have HH := Lib.hid (show Has w.heap.size w3 b 8 8 1 kw04_2 from H1)
  have HB := Lib.hid (HB.out.trans b1)
  clear H1 b1
  go_wp2_with fail
  refine (hTick HH.out HB.out.size 5 (by decide) (by decide) kw04_2_e).mono ?_
  rintro e w3 ⟨rfl, H1, b1⟩
  have HH := Lib.hid (show Has w.heap.size w3 b 8 8 1 kw04_3 from H1)
  have HB := Lib.hid (HB.out.trans b1)
  clear H1 b1
  go_wp2_with fail
  refine (hLoad HH.out 268763136 (by decide) (by decide)).mono ?_
  rw [kw04_v, kw04_l]
  rintro e w6 ⟨rfl, b1⟩
  have HH := Lib.hid (HH.out.below b1)
  have HB := Lib.hid (tr HB.out b1)
  clear b1
  go_wp2_with fail
  refine (hHigh HH.out).mono ?_
  rw [kw04_h]
  rintro e w7 ⟨rfl, b1⟩
  have HH := Lib.hid (HH.out.below b1)
  have HB := Lib.hid (tr HB.out b1)
  clear b1
  go_wp2_with fail
  refine (hOut HH.out).mono ?_
  rw [kw04_h, kw04_o]
  rintro e w8 ⟨rfl, b1⟩
  have HH := Lib.hid (HH.out.below b1)
  have HB := Lib.hid (tr HB.out b1)
  clear b1
  go_wp2_with fail
  refine (hStore HH.out HB.out.size 268763140 16 (by decide) (by decide) (by decide) (by decide) kw04_3_e).mono ?_
  rw [kw04_t]
  rintro e w9 ⟨rfl, H1, b1⟩
  have HH := Lib.hid H1
  have HB := Lib.hid (HB.out.trans b1)
  clear H1 b1
  go_wp2_with fail
  refine (bdKnown _).mono ?_
  rintro e w10 ⟨rfl, b1⟩
  have HH := Lib.hid (HH.out.below b1)
  have HB := Lib.hid (tr HB.out b1)
  clear b1
  go_wp2_with fail
  refine (hOut HH.out).mono ?_
  rw [kw04_p]
  rintro e w11 ⟨rfl, b1⟩
  have HB := Lib.hid (tr HB.out b1)
  clear b1 HH
  go_wp2_with fail
  go_ret
  exact ⟨rfl, HB.out⟩
def kw05_0 : Bx := bx0 1
theorem kw05_0_e : kw05_0.es.length < 4294967296 := by decide +kernel
def kw05_1 : Bx := kw05_0.sto 8 8 33570856 5
theorem kw05_1_e : kw05_1.es.length < 4294967296 := by decide +kernel
def kw05_2 : Bx := kw05_1.sto 8 8 33570860 0
theorem kw05_2_e : kw05_2.es.length < 4294967296 := by decide +kernel
def kw05_3 : Bx := kw05_2.tick 5
theorem kw05_3_e : kw05_3.es.length < 4294967296 := by decide +kernel
theorem kw05_s0 : Bx.ste 8 8 33570856 = 0 := by decide +kernel
theorem kw05_s1 : Bx.ste 8 8 33570860 = 0 := by decide +kernel
theorem kw05_h0 : wires 8 8 kw05_0 = 0 := by decide +kernel
theorem kw05_h : wires 8 8 kw05_3 = 32 := by decide +kernel
theorem kw05_v : kw05_3.ldv 8 8 268763136 = 32 := by decide +kernel
theorem kw05_l : Bx.lde 8 8 268763136 = 0 := by decide +kernel
theorem kw05_o : outB 32 kw05_3.msk = false := by decide +kernel
theorem kw05_t : Bx.ste 8 8 268763140 = 0 := by decide +kernel
theorem kw05_p : outB (wires 8 8 (kw05_3.sto 8 8 268763140 32)) (kw05_3.sto 8 8 268763140 32).msk = true := by decide +kernel
set_option maxHeartbeats 3200000 in
theorem wires05 (q i : Int) (w : World) (hq : (IntKind.u64.wrap q).tmod 4 = 0) (hk : (IntKind.u64.wrap i).tmod 8 = 5) :
    Calls Tryz.prog 7 #[.int .i64 q, .int .i64 i] w fun e w' => e = .returned (.bool true) ∧ Below w.heap.size w w' := by
  have HNW := Lib.hid (hNew 8 8 1 w (by decide) (by decide) (by decide) (by decide) (by decide) (by decide))
  go_enter Tryz.func7, Tryz.ntmps7
  go_wp2_with fail
  refine (HNW.out).mono ?_
  rintro e w1 ⟨b, rfl, H1, b1⟩
  have HH := Lib.hid (show Has w.heap.size w1 b 8 8 1 kw05_0 from H1)
  have HB := Lib.hid b1
  clear H1 b1 HNW
  go_wp2_with fail
  refine (hHigh HH.out).mono ?_
  rw [kw05_h0]
  rintro e w2 ⟨rfl, b1⟩
  have HH := Lib.hid (HH.out.below b1)
  have HB := Lib.hid (tr HB.out b1)
  clear b1
  go_wp2_with fail
  refine (hStore HH.out HB.out.size 33570856 5 (by decide) (by decide) (by decide) (by decide) kw05_0_e).mono ?_
  rw [kw05_s0]
  rintro e w3 ⟨rfl, H1, b1⟩
  have HH := Lib.hid (show Has w.heap.size w3 b 8 8 1 kw05_1 from H1)
  have HB := Lib.hid (HB.out.trans b1)
  clear H1 b1
  go_wp2_with fail
  refine (hStore HH.out HB.out.size 33570860 0 (by decide) (by decide) (by decide) (by decide) kw05_1_e).mono ?_
  rw [kw05_s1]
  rintro e w3 ⟨rfl, H1, b1⟩
  have HH := Lib.hid (show Has w.heap.size w3 b 8 8 1 kw05_2 from H1)
  have HB := Lib.hid (HB.out.trans b1)
  clear H1 b1
  go_wp2_with fail
  refine (hTick HH.out HB.out.size 5 (by decide) (by decide) kw05_2_e).mono ?_
  rintro e w3 ⟨rfl, H1, b1⟩
  have HH := Lib.hid (show Has w.heap.size w3 b 8 8 1 kw05_3 from H1)
  have HB := Lib.hid (HB.out.trans b1)
  clear H1 b1
  go_wp2_with fail
  refine (hLoad HH.out 268763136 (by decide) (by decide)).mono ?_
  rw [kw05_v, kw05_l]
  rintro e w6 ⟨rfl, b1⟩
  have HH := Lib.hid (HH.out.below b1)
  have HB := Lib.hid (tr HB.out b1)
  clear b1
  go_wp2_with fail
  refine (hHigh HH.out).mono ?_
  rw [kw05_h]
  rintro e w7 ⟨rfl, b1⟩
  have HH := Lib.hid (HH.out.below b1)
  have HB := Lib.hid (tr HB.out b1)
  clear b1
  go_wp2_with fail
  refine (hOut HH.out).mono ?_
  rw [kw05_h, kw05_o]
  rintro e w8 ⟨rfl, b1⟩
  have HH := Lib.hid (HH.out.below b1)
  have HB := Lib.hid (tr HB.out b1)
  clear b1
  go_wp2_with fail
  refine (hStore HH.out HB.out.size 268763140 32 (by decide) (by decide) (by decide) (by decide) kw05_3_e).mono ?_
  rw [kw05_t]
  rintro e w9 ⟨rfl, H1, b1⟩
  have HH := Lib.hid H1
  have HB := Lib.hid (HB.out.trans b1)
  clear H1 b1
  go_wp2_with fail
  refine (bdKnown _).mono ?_
  rintro e w10 ⟨rfl, b1⟩
  have HH := Lib.hid (HH.out.below b1)
  have HB := Lib.hid (tr HB.out b1)
  clear b1
  go_wp2_with fail
  refine (hOut HH.out).mono ?_
  rw [kw05_p]
  rintro e w11 ⟨rfl, b1⟩
  have HB := Lib.hid (tr HB.out b1)
  clear b1 HH
  go_wp2_with fail
  go_ret
  exact ⟨rfl, HB.out⟩
def kw06_0 : Bx := bx0 1
theorem kw06_0_e : kw06_0.es.length < 4294967296 := by decide +kernel
def kw06_1 : Bx := kw06_0.sto 8 8 33570864 5
theorem kw06_1_e : kw06_1.es.length < 4294967296 := by decide +kernel
def kw06_2 : Bx := kw06_1.sto 8 8 33570868 0
theorem kw06_2_e : kw06_2.es.length < 4294967296 := by decide +kernel
def kw06_3 : Bx := kw06_2.tick 5
theorem kw06_3_e : kw06_3.es.length < 4294967296 := by decide +kernel
theorem kw06_s0 : Bx.ste 8 8 33570864 = 0 := by decide +kernel
theorem kw06_s1 : Bx.ste 8 8 33570868 = 0 := by decide +kernel
theorem kw06_h0 : wires 8 8 kw06_0 = 0 := by decide +kernel
theorem kw06_h : wires 8 8 kw06_3 = 64 := by decide +kernel
theorem kw06_v : kw06_3.ldv 8 8 268763136 = 64 := by decide +kernel
theorem kw06_l : Bx.lde 8 8 268763136 = 0 := by decide +kernel
theorem kw06_o : outB 64 kw06_3.msk = false := by decide +kernel
theorem kw06_t : Bx.ste 8 8 268763140 = 0 := by decide +kernel
theorem kw06_p : outB (wires 8 8 (kw06_3.sto 8 8 268763140 64)) (kw06_3.sto 8 8 268763140 64).msk = true := by decide +kernel
set_option maxHeartbeats 3200000 in
theorem wires06 (q i : Int) (w : World) (hq : (IntKind.u64.wrap q).tmod 4 = 0) (hk : (IntKind.u64.wrap i).tmod 8 = 6) :
    Calls Tryz.prog 7 #[.int .i64 q, .int .i64 i] w fun e w' => e = .returned (.bool true) ∧ Below w.heap.size w w' := by
  have HNW := Lib.hid (hNew 8 8 1 w (by decide) (by decide) (by decide) (by decide) (by decide) (by decide))
  go_enter Tryz.func7, Tryz.ntmps7
  go_wp2_with fail
  refine (HNW.out).mono ?_
  rintro e w1 ⟨b, rfl, H1, b1⟩
  have HH := Lib.hid (show Has w.heap.size w1 b 8 8 1 kw06_0 from H1)
  have HB := Lib.hid b1
  clear H1 b1 HNW
  go_wp2_with fail
  refine (hHigh HH.out).mono ?_
  rw [kw06_h0]
  rintro e w2 ⟨rfl, b1⟩
  have HH := Lib.hid (HH.out.below b1)
  have HB := Lib.hid (tr HB.out b1)
  clear b1
  go_wp2_with fail
  refine (hStore HH.out HB.out.size 33570864 5 (by decide) (by decide) (by decide) (by decide) kw06_0_e).mono ?_
  rw [kw06_s0]
  rintro e w3 ⟨rfl, H1, b1⟩
  have HH := Lib.hid (show Has w.heap.size w3 b 8 8 1 kw06_1 from H1)
  have HB := Lib.hid (HB.out.trans b1)
  clear H1 b1
  go_wp2_with fail
  refine (hStore HH.out HB.out.size 33570868 0 (by decide) (by decide) (by decide) (by decide) kw06_1_e).mono ?_
  rw [kw06_s1]
  rintro e w3 ⟨rfl, H1, b1⟩
  have HH := Lib.hid (show Has w.heap.size w3 b 8 8 1 kw06_2 from H1)
  have HB := Lib.hid (HB.out.trans b1)
  clear H1 b1
  go_wp2_with fail
  refine (hTick HH.out HB.out.size 5 (by decide) (by decide) kw06_2_e).mono ?_
  rintro e w3 ⟨rfl, H1, b1⟩
  have HH := Lib.hid (show Has w.heap.size w3 b 8 8 1 kw06_3 from H1)
  have HB := Lib.hid (HB.out.trans b1)
  clear H1 b1
  go_wp2_with fail
  refine (hLoad HH.out 268763136 (by decide) (by decide)).mono ?_
  rw [kw06_v, kw06_l]
  rintro e w6 ⟨rfl, b1⟩
  have HH := Lib.hid (HH.out.below b1)
  have HB := Lib.hid (tr HB.out b1)
  clear b1
  go_wp2_with fail
  refine (hHigh HH.out).mono ?_
  rw [kw06_h]
  rintro e w7 ⟨rfl, b1⟩
  have HH := Lib.hid (HH.out.below b1)
  have HB := Lib.hid (tr HB.out b1)
  clear b1
  go_wp2_with fail
  refine (hOut HH.out).mono ?_
  rw [kw06_h, kw06_o]
  rintro e w8 ⟨rfl, b1⟩
  have HH := Lib.hid (HH.out.below b1)
  have HB := Lib.hid (tr HB.out b1)
  clear b1
  go_wp2_with fail
  refine (hStore HH.out HB.out.size 268763140 64 (by decide) (by decide) (by decide) (by decide) kw06_3_e).mono ?_
  rw [kw06_t]
  rintro e w9 ⟨rfl, H1, b1⟩
  have HH := Lib.hid H1
  have HB := Lib.hid (HB.out.trans b1)
  clear H1 b1
  go_wp2_with fail
  refine (bdKnown _).mono ?_
  rintro e w10 ⟨rfl, b1⟩
  have HH := Lib.hid (HH.out.below b1)
  have HB := Lib.hid (tr HB.out b1)
  clear b1
  go_wp2_with fail
  refine (hOut HH.out).mono ?_
  rw [kw06_p]
  rintro e w11 ⟨rfl, b1⟩
  have HB := Lib.hid (tr HB.out b1)
  clear b1 HH
  go_wp2_with fail
  go_ret
  exact ⟨rfl, HB.out⟩
def kw07_0 : Bx := bx0 1
theorem kw07_0_e : kw07_0.es.length < 4294967296 := by decide +kernel
def kw07_1 : Bx := kw07_0.sto 8 8 33570872 5
theorem kw07_1_e : kw07_1.es.length < 4294967296 := by decide +kernel
def kw07_2 : Bx := kw07_1.sto 8 8 33570876 0
theorem kw07_2_e : kw07_2.es.length < 4294967296 := by decide +kernel
def kw07_3 : Bx := kw07_2.tick 5
theorem kw07_3_e : kw07_3.es.length < 4294967296 := by decide +kernel
theorem kw07_s0 : Bx.ste 8 8 33570872 = 0 := by decide +kernel
theorem kw07_s1 : Bx.ste 8 8 33570876 = 0 := by decide +kernel
theorem kw07_h0 : wires 8 8 kw07_0 = 0 := by decide +kernel
theorem kw07_h : wires 8 8 kw07_3 = 128 := by decide +kernel
theorem kw07_v : kw07_3.ldv 8 8 268763136 = 128 := by decide +kernel
theorem kw07_l : Bx.lde 8 8 268763136 = 0 := by decide +kernel
theorem kw07_o : outB 128 kw07_3.msk = false := by decide +kernel
theorem kw07_t : Bx.ste 8 8 268763140 = 0 := by decide +kernel
theorem kw07_p : outB (wires 8 8 (kw07_3.sto 8 8 268763140 128)) (kw07_3.sto 8 8 268763140 128).msk = true := by decide +kernel
set_option maxHeartbeats 3200000 in
theorem wires07 (q i : Int) (w : World) (hq : (IntKind.u64.wrap q).tmod 4 = 0) (hk : (IntKind.u64.wrap i).tmod 8 = 7) :
    Calls Tryz.prog 7 #[.int .i64 q, .int .i64 i] w fun e w' => e = .returned (.bool true) ∧ Below w.heap.size w w' := by
  have HNW := Lib.hid (hNew 8 8 1 w (by decide) (by decide) (by decide) (by decide) (by decide) (by decide))
  go_enter Tryz.func7, Tryz.ntmps7
  go_wp2_with fail
  refine (HNW.out).mono ?_
  rintro e w1 ⟨b, rfl, H1, b1⟩
  have HH := Lib.hid (show Has w.heap.size w1 b 8 8 1 kw07_0 from H1)
  have HB := Lib.hid b1
  clear H1 b1 HNW
  go_wp2_with fail
  refine (hHigh HH.out).mono ?_
  rw [kw07_h0]
  rintro e w2 ⟨rfl, b1⟩
  have HH := Lib.hid (HH.out.below b1)
  have HB := Lib.hid (tr HB.out b1)
  clear b1
  go_wp2_with fail
  refine (hStore HH.out HB.out.size 33570872 5 (by decide) (by decide) (by decide) (by decide) kw07_0_e).mono ?_
  rw [kw07_s0]
  rintro e w3 ⟨rfl, H1, b1⟩
  have HH := Lib.hid (show Has w.heap.size w3 b 8 8 1 kw07_1 from H1)
  have HB := Lib.hid (HB.out.trans b1)
  clear H1 b1
  go_wp2_with fail
  refine (hStore HH.out HB.out.size 33570876 0 (by decide) (by decide) (by decide) (by decide) kw07_1_e).mono ?_
  rw [kw07_s1]
  rintro e w3 ⟨rfl, H1, b1⟩
  have HH := Lib.hid (show Has w.heap.size w3 b 8 8 1 kw07_2 from H1)
  have HB := Lib.hid (HB.out.trans b1)
  clear H1 b1
  go_wp2_with fail
  refine (hTick HH.out HB.out.size 5 (by decide) (by decide) kw07_2_e).mono ?_
  rintro e w3 ⟨rfl, H1, b1⟩
  have HH := Lib.hid (show Has w.heap.size w3 b 8 8 1 kw07_3 from H1)
  have HB := Lib.hid (HB.out.trans b1)
  clear H1 b1
  go_wp2_with fail
  refine (hLoad HH.out 268763136 (by decide) (by decide)).mono ?_
  rw [kw07_v, kw07_l]
  rintro e w6 ⟨rfl, b1⟩
  have HH := Lib.hid (HH.out.below b1)
  have HB := Lib.hid (tr HB.out b1)
  clear b1
  go_wp2_with fail
  refine (hHigh HH.out).mono ?_
  rw [kw07_h]
  rintro e w7 ⟨rfl, b1⟩
  have HH := Lib.hid (HH.out.below b1)
  have HB := Lib.hid (tr HB.out b1)
  clear b1
  go_wp2_with fail
  refine (hOut HH.out).mono ?_
  rw [kw07_h, kw07_o]
  rintro e w8 ⟨rfl, b1⟩
  have HH := Lib.hid (HH.out.below b1)
  have HB := Lib.hid (tr HB.out b1)
  clear b1
  go_wp2_with fail
  refine (hStore HH.out HB.out.size 268763140 128 (by decide) (by decide) (by decide) (by decide) kw07_3_e).mono ?_
  rw [kw07_t]
  rintro e w9 ⟨rfl, H1, b1⟩
  have HH := Lib.hid H1
  have HB := Lib.hid (HB.out.trans b1)
  clear H1 b1
  go_wp2_with fail
  refine (bdKnown _).mono ?_
  rintro e w10 ⟨rfl, b1⟩
  have HH := Lib.hid (HH.out.below b1)
  have HB := Lib.hid (tr HB.out b1)
  clear b1
  go_wp2_with fail
  refine (hOut HH.out).mono ?_
  rw [kw07_p]
  rintro e w11 ⟨rfl, b1⟩
  have HB := Lib.hid (tr HB.out b1)
  clear b1 HH
  go_wp2_with fail
  go_ret
  exact ⟨rfl, HB.out⟩
end Go.Proofs.YtcgmnjajodegmaaGreat.B
