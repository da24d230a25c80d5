/- BoardWires: a theorem for each place. -/
import Derived.Test.YtcgmnjajodegmaaGreatZNbk
namespace Go.Proofs.YtcgmnjajodegmaaGreat.B
set_option linter.unusedVariables false
set_option linter.unusedSimpArgs false
set_option maxRecDepth 100000
open Go.ChangeShapes Go.WideShapes Go.RowKit Go.Sort
def kw10_0 : Bx := bx0 1
theorem kw10_0_e : kw10_0.es.length < 4294967296 := by decide +kernel
def kw10_1 : Bx := kw10_0.sto 8 8 33554432 1
theorem kw10_1_e : kw10_1.es.length < 4294967296 := by decide +kernel
theorem kw10_s0 : Bx.ste 8 8 33554432 = 0 := by decide +kernel
theorem kw10_h0 : wires 8 8 kw10_0 = 0 := by decide +kernel
theorem kw10_h : wires 8 8 kw10_1 = 16777216 := by decide +kernel
theorem kw10_v : kw10_1.ldv 8 8 268763136 = 16777216 := by decide +kernel
theorem kw10_l : Bx.lde 8 8 268763136 = 0 := by decide +kernel
theorem kw10_o : outB 16777216 kw10_1.msk = false := by decide +kernel
theorem kw10_t : Bx.ste 8 8 268763140 = 0 := by decide +kernel
theorem kw10_p : outB (wires 8 8 (kw10_1.sto 8 8 268763140 16777216)) (kw10_1.sto 8 8 268763140 16777216).msk = true := by decide +kernel
set_option maxHeartbeats 3200000 in
theorem wires10 (q i : Int) (w : World) (hq : (IntKind.u64.wrap q).tmod 4 = 1) (hk : (IntKind.u64.wrap i).tmod 8 = 0) :
    Calls Tryz.prog 7 #[.int .i64 q, .int .i64 i] w fun e w' => e = .returned (.bool true) ∧ Below w.heap.size w w' := by
  have HNW := Lib.hid (hNew 8 8 1 w (by decide) (by decide) (by decide) (by decide) (by decide) (by decide))
  go_enter Tryz.func7, Tryz.ntmps7
  go_wp2_with fail
  refine (HNW.out).mono ?_
  rintro e w1 ⟨b, rfl, H1, b1⟩
  have HH := Lib.hid (show Has w.heap.size w1 b 8 8 1 kw10_0 from H1)
  have HB := Lib.hid b1
  clear H1 b1 HNW
  go_wp2_with fail
  refine (hHigh HH.out).mono ?_
  rw [kw10_h0]
  rintro e w2 ⟨rfl, b1⟩
  have HH := Lib.hid (HH.out.below b1)
  have HB := Lib.hid (tr HB.out b1)
  clear b1
  go_wp2_with fail
  refine (hStore HH.out HB.out.size 33554432 1 (by decide) (by decide) (by decide) (by decide) kw10_0_e).mono ?_
  rw [kw10_s0]
  rintro e w3 ⟨rfl, H1, b1⟩
  have HH := Lib.hid (show Has w.heap.size w3 b 8 8 1 kw10_1 from H1)
  have HB := Lib.hid (HB.out.trans b1)
  clear H1 b1
  go_wp2_with fail
  refine (hLoad HH.out 268763136 (by decide) (by decide)).mono ?_
  rw [kw10_v, kw10_l]
  rintro e w6 ⟨rfl, b1⟩
  have HH := Lib.hid (HH.out.below b1)
  have HB := Lib.hid (tr HB.out b1)
  clear b1
  go_wp2_with fail
  refine (hHigh HH.out).mono ?_
  rw [kw10_h]
  rintro e w7 ⟨rfl, b1⟩
  have HH := Lib.hid (HH.out.below b1)
  have HB := Lib.hid (tr HB.out b1)
  clear b1
  go_wp2_with fail
  refine (hOut HH.out).mono ?_
  rw [kw10_h, kw10_o]
  rintro e w8 ⟨rfl, b1⟩
  have HH := Lib.hid (HH.out.below b1)
  have HB := Lib.hid (tr HB.out b1)
  clear b1
  go_wp2_with fail
  refine (hStore HH.out HB.out.size 268763140 16777216 (by decide) (by decide) (by decide) (by decide) kw10_1_e).mono ?_
  rw [kw10_t]
  rintro e w9 ⟨rfl, H1, b1⟩
  have HH := Lib.hid H1
  have HB := Lib.hid (HB.out.trans b1)
  clear H1 b1
  go_wp2_with fail
  refine (bdKnown _).mono ?_
  rintro e w10 ⟨rfl, b1⟩
  have HH := Lib.hid (HH.out.below b1)
  have HB := Lib.hid (tr HB.out b1)
  clear b1
  go_wp2_with fail
  refine (hOut HH.out).mono ?_
  rw [kw10_p]
  rintro e w11 ⟨rfl, b1⟩
  have HB := Lib.hid (tr HB.out b1)
  clear b1 HH
  go_wp2_with fail
  go_ret
  exact ⟨rfl, HB.out⟩
def kw11_0 : Bx := bx0 1
theorem kw11_0_e : kw11_0.es.length < 4294967296 := by decide +kernel
def kw11_1 : Bx := kw11_0.sto 8 8 33554436 1
theorem kw11_1_e : kw11_1.es.length < 4294967296 := by decide +kernel
theorem kw11_s0 : Bx.ste 8 8 33554436 = 0 := by decide +kernel
theorem kw11_h0 : wires 8 8 kw11_0 = 0 := by decide +kernel
theorem kw11_h : wires 8 8 kw11_1 = 33554432 := by decide +kernel
theorem kw11_v : kw11_1.ldv 8 8 268763136 = 33554432 := by decide +kernel
theorem kw11_l : Bx.lde 8 8 268763136 = 0 := by decide +kernel
theorem kw11_o : outB 33554432 kw11_1.msk = false := by decide +kernel
theorem kw11_t : Bx.ste 8 8 268763140 = 0 := by decide +kernel
theorem kw11_p : outB (wires 8 8 (kw11_1.sto 8 8 268763140 33554432)) (kw11_1.sto 8 8 268763140 33554432).msk = true := by decide +kernel
set_option maxHeartbeats 3200000 in
theorem wires11 (q i : Int) (w : World) (hq : (IntKind.u64.wrap q).tmod 4 = 1) (hk : (IntKind.u64.wrap i).tmod 8 = 1) :
    Calls Tryz.prog 7 #[.int .i64 q, .int .i64 i] w fun e w' => e = .returned (.bool true) ∧ Below w.heap.size w w' := by
  have HNW := Lib.hid (hNew 8 8 1 w (by decide) (by decide) (by decide) (by decide) (by decide) (by decide))
  go_enter Tryz.func7, Tryz.ntmps7
  go_wp2_with fail
  refine (HNW.out).mono ?_
  rintro e w1 ⟨b, rfl, H1, b1⟩
  have HH := Lib.hid (show Has w.heap.size w1 b 8 8 1 kw11_0 from H1)
  have HB := Lib.hid b1
  clear H1 b1 HNW
  go_wp2_with fail
  refine (hHigh HH.out).mono ?_
  rw [kw11_h0]
  rintro e w2 ⟨rfl, b1⟩
  have HH := Lib.hid (HH.out.below b1)
  have HB := Lib.hid (tr HB.out b1)
  clear b1
  go_wp2_with fail
  refine (hStore HH.out HB.out.size 33554436 1 (by decide) (by decide) (by decide) (by decide) kw11_0_e).mono ?_
  rw [kw11_s0]
  rintro e w3 ⟨rfl, H1, b1⟩
  have HH := Lib.hid (show Has w.heap.size w3 b 8 8 1 kw11_1 from H1)
  have HB := Lib.hid (HB.out.trans b1)
  clear H1 b1
  go_wp2_with fail
  refine (hLoad HH.out 268763136 (by decide) (by decide)).mono ?_
  rw [kw11_v, kw11_l]
  rintro e w6 ⟨rfl, b1⟩
  have HH := Lib.hid (HH.out.below b1)
  have HB := Lib.hid (tr HB.out b1)
  clear b1
  go_wp2_with fail
  refine (hHigh HH.out).mono ?_
  rw [kw11_h]
  rintro e w7 ⟨rfl, b1⟩
  have HH := Lib.hid (HH.out.below b1)
  have HB := Lib.hid (tr HB.out b1)
  clear b1
  go_wp2_with fail
  refine (hOut HH.out).mono ?_
  rw [kw11_h, kw11_o]
  rintro e w8 ⟨rfl, b1⟩
  have HH := Lib.hid (HH.out.below b1)
  have HB := Lib.hid (tr HB.out b1)
  clear b1
  go_wp2_with fail
  refine (hStore HH.out HB.out.size 268763140 33554432 (by decide) (by decide) (by decide) (by decide) kw11_1_e).mono ?_
  rw [kw11_t]
  rintro e w9 ⟨rfl, H1, b1⟩
  have HH := Lib.hid H1
  have HB := Lib.hid (HB.out.trans b1)
  clear H1 b1
  go_wp2_with fail
  refine (bdKnown _).mono ?_
  rintro e w10 ⟨rfl, b1⟩
  have HH := Lib.hid (HH.out.below b1)
  have HB := Lib.hid (tr HB.out b1)
  clear b1
  go_wp2_with fail
  refine (hOut HH.out).mono ?_
  rw [kw11_p]
  rintro e w11 ⟨rfl, b1⟩
  have HB := Lib.hid (tr HB.out b1)
  clear b1 HH
  go_wp2_with fail
  go_ret
  exact ⟨rfl, HB.out⟩
def kw12_0 : Bx := bx0 1
theorem kw12_0_e : kw12_0.es.length < 4294967296 := by decide +kernel
def kw12_1 : Bx := kw12_0.sto 8 8 33554440 1
theorem kw12_1_e : kw12_1.es.length < 4294967296 := by decide +kernel
theorem kw12_s0 : Bx.ste 8 8 33554440 = 0 := by decide +kernel
theorem kw12_h0 : wires 8 8 kw12_0 = 0 := by decide +kernel
theorem kw12_h : wires 8 8 kw12_1 = 67108864 := by decide +kernel
theorem kw12_v : kw12_1.ldv 8 8 268763136 = 67108864 := by decide +kernel
theorem kw12_l : Bx.lde 8 8 268763136 = 0 := by decide +kernel
theorem kw12_o : outB 67108864 kw12_1.msk = false := by decide +kernel
theorem kw12_t : Bx.ste 8 8 268763140 = 0 := by decide +kernel
theorem kw12_p : outB (wires 8 8 (kw12_1.sto 8 8 268763140 67108864)) (kw12_1.sto 8 8 268763140 67108864).msk = true := by decide +kernel
set_option maxHeartbeats 3200000 in
theorem wires12 (q i : Int) (w : World) (hq : (IntKind.u64.wrap q).tmod 4 = 1) (hk : (IntKind.u64.wrap i).tmod 8 = 2) :
    Calls Tryz.prog 7 #[.int .i64 q, .int .i64 i] w fun e w' => e = .returned (.bool true) ∧ Below w.heap.size w w' := by
  have HNW := Lib.hid (hNew 8 8 1 w (by decide) (by decide) (by decide) (by decide) (by decide) (by decide))
  go_enter Tryz.func7, Tryz.ntmps7
  go_wp2_with fail
  refine (HNW.out).mono ?_
  rintro e w1 ⟨b, rfl, H1, b1⟩
  have HH := Lib.hid (show Has w.heap.size w1 b 8 8 1 kw12_0 from H1)
  have HB := Lib.hid b1
  clear H1 b1 HNW
  go_wp2_with fail
  refine (hHigh HH.out).mono ?_
  rw [kw12_h0]
  rintro e w2 ⟨rfl, b1⟩
  have HH := Lib.hid (HH.out.below b1)
  have HB := Lib.hid (tr HB.out b1)
  clear b1
  go_wp2_with fail
  refine (hStore HH.out HB.out.size 33554440 1 (by decide) (by decide) (by decide) (by decide) kw12_0_e).mono ?_
  rw [kw12_s0]
  rintro e w3 ⟨rfl, H1, b1⟩
  have HH := Lib.hid (show Has w.heap.size w3 b 8 8 1 kw12_1 from H1)
  have HB := Lib.hid (HB.out.trans b1)
  clear H1 b1
  go_wp2_with fail
  refine (hLoad HH.out 268763136 (by decide) (by decide)).mono ?_
  rw [kw12_v, kw12_l]
  rintro e w6 ⟨rfl, b1⟩
  have HH := Lib.hid (HH.out.below b1)
  have HB := Lib.hid (tr HB.out b1)
  clear b1
  go_wp2_with fail
  refine (hHigh HH.out).mono ?_
  rw [kw12_h]
  rintro e w7 ⟨rfl, b1⟩
  have HH := Lib.hid (HH.out.below b1)
  have HB := Lib.hid (tr HB.out b1)
  clear b1
  go_wp2_with fail
  refine (hOut HH.out).mono ?_
  rw [kw12_h, kw12_o]
  rintro e w8 ⟨rfl, b1⟩
  have HH := Lib.hid (HH.out.below b1)
  have HB := Lib.hid (tr HB.out b1)
  clear b1
  go_wp2_with fail
  refine (hStore HH.out HB.out.size 268763140 67108864 (by decide) (by decide) (by decide) (by decide) kw12_1_e).mono ?_
  rw [kw12_t]
  rintro e w9 ⟨rfl, H1, b1⟩
  have HH := Lib.hid H1
  have HB := Lib.hid (HB.out.trans b1)
  clear H1 b1
  go_wp2_with fail
  refine (bdKnown _).mono ?_
  rintro e w10 ⟨rfl, b1⟩
  have HH := Lib.hid (HH.out.below b1)
  have HB := Lib.hid (tr HB.out b1)
  clear b1
  go_wp2_with fail
  refine (hOut HH.out).mono ?_
  rw [kw12_p]
  rintro e w11 ⟨rfl, b1⟩
  have HB := Lib.hid (tr HB.out b1)
  clear b1 HH
  go_wp2_with fail
  go_ret
  exact ⟨rfl, HB.out⟩
def kw13_0 : Bx := bx0 1
theorem kw13_0_e : kw13_0.es.length < 4294967296 := by decide +kernel
def kw13_1 : Bx := kw13_0.sto 8 8 33554444 1
theorem kw13_1_e : kw13_1.es.length < 4294967296 := by decide +kernel
theorem kw13_s0 : Bx.ste 8 8 33554444 = 0 := by decide +kernel
theorem kw13_h0 : wires 8 8 kw13_0 = 0 := by decide +kernel
theorem kw13_h : wires 8 8 kw13_1 = 134217728 := by decide +kernel
theorem kw13_v : kw13_1.ldv 8 8 268763136 = 134217728 := by decide +kernel
theorem kw13_l : Bx.lde 8 8 268763136 = 0 := by decide +kernel
theorem kw13_o : outB 134217728 kw13_1.msk = false := by decide +kernel
theorem kw13_t : Bx.ste 8 8 268763140 = 0 := by decide +kernel
theorem kw13_p : outB (wires 8 8 (kw13_1.sto 8 8 268763140 134217728)) (kw13_1.sto 8 8 268763140 134217728).msk = true := by decide +kernel
set_option maxHeartbeats 3200000 in
theorem wires13 (q i : Int) (w : World) (hq : (IntKind.u64.wrap q).tmod 4 = 1) (hk : (IntKind.u64.wrap i).tmod 8 = 3) :
    Calls Tryz.prog 7 #[.int .i64 q, .int .i64 i] w fun e w' => e = .returned (.bool true) ∧ Below w.heap.size w w' := by
  have HNW := Lib.hid (hNew 8 8 1 w (by decide) (by decide) (by decide) (by decide) (by decide) (by decide))
  go_enter Tryz.func7, Tryz.ntmps7
  go_wp2_with fail
  refine (HNW.out).mono ?_
  rintro e w1 ⟨b, rfl, H1, b1⟩
  have HH := Lib.hid (show Has w.heap.size w1 b 8 8 1 kw13_0 from H1)
  have HB := Lib.hid b1
  clear H1 b1 HNW
  go_wp2_with fail
  refine (hHigh HH.out).mono ?_
  rw [kw13_h0]
  rintro e w2 ⟨rfl, b1⟩
  have HH := Lib.hid (HH.out.below b1)
  have HB := Lib.hid (tr HB.out b1)
  clear b1
  go_wp2_with fail
  refine (hStore HH.out HB.out.size 33554444 1 (by decide) (by decide) (by decide) (by decide) kw13_0_e).mono ?_
  rw [kw13_s0]
  rintro e w3 ⟨rfl, H1, b1⟩
  have HH := Lib.hid (show Has w.heap.size w3 b 8 8 1 kw13_1 from H1)
  have HB := Lib.hid (HB.out.trans b1)
  clear H1 b1
  go_wp2_with fail
  refine (hLoad HH.out 268763136 (by decide) (by decide)).mono ?_
  rw [kw13_v, kw13_l]
  rintro e w6 ⟨rfl, b1⟩
  have HH := Lib.hid (HH.out.below b1)
  have HB := Lib.hid (tr HB.out b1)
  clear b1
  go_wp2_with fail
  refine (hHigh HH.out).mono ?_
  rw [kw13_h]
  rintro e w7 ⟨rfl, b1⟩
  have HH := Lib.hid (HH.out.below b1)
  have HB := Lib.hid (tr HB.out b1)
  clear b1
  go_wp2_with fail
  refine (hOut HH.out).mono ?_
  rw [kw13_h, kw13_o]
  rintro e w8 ⟨rfl, b1⟩
  have HH := Lib.hid (HH.out.below b1)
  have HB := Lib.hid (tr HB.out b1)
  clear b1
  go_wp2_with fail
  refine (hStore HH.out HB.out.size 268763140 134217728 (by decide) (by decide) (by decide) (by decide) kw13_1_e).mono ?_
  rw [kw13_t]
  rintro e w9 ⟨rfl, H1, b1⟩
  have HH := Lib.hid H1
  have HB := Lib.hid (HB.out.trans b1)
  clear H1 b1
  go_wp2_with fail
  refine (bdKnown _).mono ?_
  rintro e w10 ⟨rfl, b1⟩
  have HH := Lib.hid (HH.out.below b1)
  have HB := Lib.hid (tr HB.out b1)
  clear b1
  go_wp2_with fail
  refine (hOut HH.out).mono ?_
  rw [kw13_p]
  rintro e w11 ⟨rfl, b1⟩
  have HB := Lib.hid (tr HB.out b1)
  clear b1 HH
  go_wp2_with fail
  go_ret
  exact ⟨rfl, HB.out⟩
def kw14_0 : Bx := bx0 1
theorem kw14_0_e : kw14_0.es.length < 4294967296 := by decide +kernel
def kw14_1 : Bx := kw14_0.sto 8 8 33554448 1
theorem kw14_1_e : kw14_1.es.length < 4294967296 := by decide +kernel
theorem kw14_s0 : Bx.ste 8 8 33554448 = 0 := by decide +kernel
theorem kw14_h0 : wires 8 8 kw14_0 = 0 := by decide +kernel
theorem kw14_h : wires 8 8 kw14_1 = 268435456 := by decide +kernel
theorem kw14_v : kw14_1.ldv 8 8 268763136 = 268435456 := by decide +kernel
theorem kw14_l : Bx.lde 8 8 268763136 = 0 := by decide +kernel
theorem kw14_o : outB 268435456 kw14_1.msk = false := by decide +kernel
theorem kw14_t : Bx.ste 8 8 268763140 = 0 := by decide +kernel
theorem kw14_p : outB (wires 8 8 (kw14_1.sto 8 8 268763140 268435456)) (kw14_1.sto 8 8 268763140 268435456).msk = true := by decide +kernel
set_option maxHeartbeats 3200000 in
theorem wires14 (q i : Int) (w : World) (hq : (IntKind.u64.wrap q).tmod 4 = 1) (hk : (IntKind.u64.wrap i).tmod 8 = 4) :
    Calls Tryz.prog 7 #[.int .i64 q, .int .i64 i] w fun e w' => e = .returned (.bool true) ∧ Below w.heap.size w w' := by
  have HNW := Lib.hid (hNew 8 8 1 w (by decide) (by decide) (by decide) (by decide) (by decide) (by decide))
  go_enter Tryz.func7, Tryz.ntmps7
  go_wp2_with fail
  refine (HNW.out).mono ?_
  rintro e w1 ⟨b, rfl, H1, b1⟩
  have HH := Lib.hid (show Has w.heap.size w1 b 8 8 1 kw14_0 from H1)
  have HB := Lib.hid b1
  clear H1 b1 HNW
  go_wp2_with fail
  refine (hHigh HH.out).mono ?_
  rw [kw14_h0]
  rintro e w2 ⟨rfl, b1⟩
  have HH := Lib.hid (HH.out.below b1)
  have HB := Lib.hid (tr HB.out b1)
  clear b1
  go_wp2_with fail
  refine (hStore HH.out HB.out.size 33554448 1 (by decide) (by decide) (by decide) (by decide) kw14_0_e).mono ?_
  rw [kw14_s0]
  rintro e w3 ⟨rfl, H1, b1⟩
  have HH := Lib.hid (show Has w.heap.size w3 b 8 8 1 kw14_1 from H1)
  have HB := Lib.hid (HB.out.trans b1)
  clear H1 b1
  go_wp2_with fail
  refine (hLoad HH.out 268763136 (by decide) (by decide)).mono ?_
  rw [kw14_v, kw14_l]
  rintro e w6 ⟨rfl, b1⟩
  have HH := Lib.hid (HH.out.below b1)
  have HB := Lib.hid (tr HB.out b1)
  clear b1
  go_wp2_with fail
  refine (hHigh HH.out).mono ?_
  rw [kw14_h]
  rintro e w7 ⟨rfl, b1⟩
  have HH := Lib.hid (HH.out.below b1)
  have HB := Lib.hid (tr HB.out b1)
  clear b1
  go_wp2_with fail
  refine (hOut HH.out).mono ?_
  rw [kw14_h, kw14_o]
  rintro e w8 ⟨rfl, b1⟩
  have HH := Lib.hid (HH.out.below b1)
  have HB := Lib.hid (tr HB.out b1)
  clear b1
  go_wp2_with fail
  refine (hStore HH.out HB.out.size 268763140 268435456 (by decide) (by decide) (by decide) (by decide) kw14_1_e).mono ?_
  rw [kw14_t]
  rintro e w9 ⟨rfl, H1, b1⟩
  have HH := Lib.hid H1
  have HB := Lib.hid (HB.out.trans b1)
  clear H1 b1
  go_wp2_with fail
  refine (bdKnown _).mono ?_
  rintro e w10 ⟨rfl, b1⟩
  have HH := Lib.hid (HH.out.below b1)
  have HB := Lib.hid (tr HB.out b1)
  clear b1
  go_wp2_with fail
  refine (hOut HH.out).mono ?_
  rw [kw14_p]
  rintro e w11 ⟨rfl, b1⟩
  have HB := Lib.hid (tr HB.out b1)
  clear b1 HH
  go_wp2_with fail
  go_ret
  exact ⟨rfl, HB.out⟩
def kw15_0 : Bx := bx0 1
theorem kw15_0_e : kw15_0.es.length < 4294967296 := by decide +kernel
def kw15_1 : Bx := kw15_0.sto 8 8 33554452 1
theorem kw15_1_e : kw15_1.es.length < 4294967296 := by decide +kernel
theorem kw15_s0 : Bx.ste 8 8 33554452 = 0 := by decide +kernel
theorem kw15_h0 : wires 8 8 kw15_0 = 0 := by decide +kernel
theorem kw15_h : wires 8 8 kw15_1 = 536870912 := by decide +kernel
theorem kw15_v : kw15_1.ldv 8 8 268763136 = 536870912 := by decide +kernel
theorem kw15_l : Bx.lde 8 8 268763136 = 0 := by decide +kernel
theorem kw15_o : outB 536870912 kw15_1.msk = false := by decide +kernel
theorem kw15_t : Bx.ste 8 8 268763140 = 0 := by decide +kernel
theorem kw15_p : outB (wires 8 8 (kw15_1.sto 8 8 268763140 536870912)) (kw15_1.sto 8 8 268763140 536870912).msk = true := by decide +kernel
set_option maxHeartbeats 3200000 in
theorem wires15 (q i : Int) (w : World) (hq : (IntKind.u64.wrap q).tmod 4 = 1) (hk : (IntKind.u64.wrap i).tmod 8 = 5) :
    Calls Tryz.prog 7 #[.int .i64 q, .int .i64 i] w fun e w' => e = .returned (.bool true) ∧ Below w.heap.size w w' := by
  have HNW := Lib.hid (hNew 8 8 1 w (by decide) (by decide) (by decide) (by decide) (by decide) (by decide))
  go_enter Tryz.func7, Tryz.ntmps7
  go_wp2_with fail
  refine (HNW.out).mono ?_
  rintro e w1 ⟨b, rfl, H1, b1⟩
  have HH := Lib.hid (show Has w.heap.size w1 b 8 8 1 kw15_0 from H1)
  have HB := Lib.hid b1
  clear H1 b1 HNW
  go_wp2_with fail
  refine (hHigh HH.out).mono ?_
  rw [kw15_h0]
  rintro e w2 ⟨rfl, b1⟩
  have HH := Lib.hid (HH.out.below b1)
  have HB := Lib.hid (tr HB.out b1)
  clear b1
  go_wp2_with fail
  refine (hStore HH.out HB.out.size 33554452 1 (by decide) (by decide) (by decide) (by decide) kw15_0_e).mono ?_
  rw [kw15_s0]
  rintro e w3 ⟨rfl, H1, b1⟩
  have HH := Lib.hid (show Has w.heap.size w3 b 8 8 1 kw15_1 from H1)
  have HB := Lib.hid (HB.out.trans b1)
  clear H1 b1
  go_wp2_with fail
  refine (hLoad HH.out 268763136 (by decide) (by decide)).mono ?_
  rw [kw15_v, kw15_l]
  rintro e w6 ⟨rfl, b1⟩
  have HH := Lib.hid (HH.out.below b1)
  have HB := Lib.hid (tr HB.out b1)
  clear b1
  go_wp2_with fail
  refine (hHigh HH.out).mono ?_
  rw [kw15_h]
  rintro e w7 ⟨rfl, b1⟩
  have HH := Lib.hid (HH.out.below b1)
  have HB := Lib.hid (tr HB.out b1)
  clear b1
  go_wp2_with fail
  refine (hOut HH.out).mono ?_
  rw [kw15_h, kw15_o]
  rintro e w8 ⟨rfl, b1⟩
  have HH := Lib.hid (HH.out.below b1)
  have HB := Lib.hid (tr HB.out b1)
  clear b1
  go_wp2_with fail
  refine (hStore HH.out HB.out.size 268763140 536870912 (by decide) (by decide) (by decide) (by decide) kw15_1_e).mono ?_
  rw [kw15_t]
  rintro e w9 ⟨rfl, H1, b1⟩
  have HH := Lib.hid H1
  have HB := Lib.hid (HB.out.trans b1)
  clear H1 b1
  go_wp2_with fail
  refine (bdKnown _).mono ?_
  rintro e w10 ⟨rfl, b1⟩
  have HH := Lib.hid (HH.out.below b1)
  have HB := Lib.hid (tr HB.out b1)
  clear b1
  go_wp2_with fail
  refine (hOut HH.out).mono ?_
  rw [kw15_p]
  rintro e w11 ⟨rfl, b1⟩
  have HB := Lib.hid (tr HB.out b1)
  clear b1 HH
  go_wp2_with fail
  go_ret
  exact ⟨rfl, HB.out⟩
def kw16_0 : Bx := bx0 1
theorem kw16_0_e : kw16_0.es.length < 4294967296 := by decide +kernel
def kw16_1 : Bx := kw16_0.sto 8 8 33554456 1
theorem kw16_1_e : kw16_1.es.length < 4294967296 := by decide +kernel
theorem kw16_s0 : Bx.ste 8 8 33554456 = 0 := by decide +kernel
theorem kw16_h0 : wires 8 8 kw16_0 = 0 := by decide +kernel
theorem kw16_h : wires 8 8 kw16_1 = 1073741824 := by decide +kernel
theorem kw16_v : kw16_1.ldv 8 8 268763136 = 1073741824 := by decide +kernel
theorem kw16_l : Bx.lde 8 8 268763136 = 0 := by decide +kernel
theorem kw16_o : outB 1073741824 kw16_1.msk = false := by decide +kernel
theorem kw16_t : Bx.ste 8 8 268763140 = 0 := by decide +kernel
theorem kw16_p : outB (wires 8 8 (kw16_1.sto 8 8 268763140 1073741824)) (kw16_1.sto 8 8 268763140 1073741824).msk = true := by decide +kernel
set_option maxHeartbeats 3200000 in
theorem wires16 (q i : Int) (w : World) (hq : (IntKind.u64.wrap q).tmod 4 = 1) (hk : (IntKind.u64.wrap i).tmod 8 = 6) :
    Calls Tryz.prog 7 #[.int .i64 q, .int .i64 i] w fun e w' => e = .returned (.bool true) ∧ Below w.heap.size w w' := by
  have HNW := Lib.hid (hNew 8 8 1 w (by decide) (by decide) (by decide) (by decide) (by decide) (by decide))
  go_enter Tryz.func7, Tryz.ntmps7
  go_wp2_with fail
  refine (HNW.out).mono ?_
  rintro e w1 ⟨b, rfl, H1, b1⟩
  have HH := Lib.hid (show Has w.heap.size w1 b 8 8 1 kw16_0 from H1)
  have HB := Lib.hid b1
  clear H1 b1 HNW
  go_wp2_with fail
  refine (hHigh HH.out).mono ?_
  rw [kw16_h0]
  rintro e w2 ⟨rfl, b1⟩
  have HH := Lib.hid (HH.out.below b1)
  have HB := Lib.hid (tr HB.out b1)
  clear b1
  go_wp2_with fail
  refine (hStore HH.out HB.out.size 33554456 1 (by decide) (by decide) (by decide) (by decide) kw16_0_e).mono ?_
  rw [kw16_s0]
  rintro e w3 ⟨rfl, H1, b1⟩
  have HH := Lib.hid (show Has w.heap.size w3 b 8 8 1 kw16_1 from H1)
  have HB := Lib.hid (HB.out.trans b1)
  clear H1 b1
  go_wp2_with fail
  refine (hLoad HH.out 268763136 (by decide) (by decide)).mono ?_
  rw [kw16_v, kw16_l]
  rintro e w6 ⟨rfl, b1⟩
  have HH := Lib.hid (HH.out.below b1)
  have HB := Lib.hid (tr HB.out b1)
  clear b1
  go_wp2_with fail
  refine (hHigh HH.out).mono ?_
  rw [kw16_h]
  rintro e w7 ⟨rfl, b1⟩
  have HH := Lib.hid (HH.out.below b1)
  have HB := Lib.hid (tr HB.out b1)
  clear b1
  go_wp2_with fail
  refine (hOut HH.out).mono ?_
  rw [kw16_h, kw16_o]
  rintro e w8 ⟨rfl, b1⟩
  have HH := Lib.hid (HH.out.below b1)
  have HB := Lib.hid (tr HB.out b1)
  clear b1
  go_wp2_with fail
  refine (hStore HH.out HB.out.size 268763140 1073741824 (by decide) (by decide) (by decide) (by decide) kw16_1_e).mono ?_
  rw [kw16_t]
  rintro e w9 ⟨rfl, H1, b1⟩
  have HH := Lib.hid H1
  have HB := Lib.hid (HB.out.trans b1)
  clear H1 b1
  go_wp2_with fail
  refine (bdKnown _).mono ?_
  rintro e w10 ⟨rfl, b1⟩
  have HH := Lib.hid (HH.out.below b1)
  have HB := Lib.hid (tr HB.out b1)
  clear b1
  go_wp2_with fail
  refine (hOut HH.out).mono ?_
  rw [kw16_p]
  rintro e w11 ⟨rfl, b1⟩
  have HB := Lib.hid (tr HB.out b1)
  clear b1 HH
  go_wp2_with fail
  go_ret
  exact ⟨rfl, HB.out⟩
def kw17_0 : Bx := bx0 1
theorem kw17_0_e : kw17_0.es.length < 4294967296 := by decide +kernel
def kw17_1 : Bx := kw17_0.sto 8 8 33554460 1
theorem kw17_1_e : kw17_1.es.length < 4294967296 := by decide +kernel
theorem kw17_s0 : Bx.ste 8 8 33554460 = 0 := by decide +kernel
theorem kw17_h0 : wires 8 8 kw17_0 = 0 := by decide +kernel
theorem kw17_h : wires 8 8 kw17_1 = 2147483648 := by decide +kernel
theorem kw17_v : kw17_1.ldv 8 8 268763136 = 2147483648 := by decide +kernel
theorem kw17_l : Bx.lde 8 8 268763136 = 0 := by decide +kernel
theorem kw17_o : outB 2147483648 kw17_1.msk = false := by decide +kernel
theorem kw17_t : Bx.ste 8 8 268763140 = 0 := by decide +kernel
theorem kw17_p : outB (wires 8 8 (kw17_1.sto 8 8 268763140 2147483648)) (kw17_1.sto 8 8 268763140 2147483648).msk = true := by decide +kernel
set_option maxHeartbeats 3200000 in
theorem wires17 (q i : Int) (w : World) (hq : (IntKind.u64.wrap q).tmod 4 = 1) (hk : (IntKind.u64.wrap i).tmod 8 = 7) :
    Calls Tryz.prog 7 #[.int .i64 q, .int .i64 i] w fun e w' => e = .returned (.bool true) ∧ Below w.heap.size w w' := by
  have HNW := Lib.hid (hNew 8 8 1 w (by decide) (by decide) (by decide) (by decide) (by decide) (by decide))
  go_enter Tryz.func7, Tryz.ntmps7
  go_wp2_with fail
  refine (HNW.out).mono ?_
  rintro e w1 ⟨b, rfl, H1, b1⟩
  have HH := Lib.hid (show Has w.heap.size w1 b 8 8 1 kw17_0 from H1)
  have HB := Lib.hid b1
  clear H1 b1 HNW
  go_wp2_with fail
  refine (hHigh HH.out).mono ?_
  rw [kw17_h0]
  rintro e w2 ⟨rfl, b1⟩
  have HH := Lib.hid (HH.out.below b1)
  have HB := Lib.hid (tr HB.out b1)
  clear b1
  go_wp2_with fail
  refine (hStore HH.out HB.out.size 33554460 1 (by decide) (by decide) (by decide) (by decide) kw17_0_e).mono ?_
  rw [kw17_s0]
  rintro e w3 ⟨rfl, H1, b1⟩
  have HH := Lib.hid (show Has w.heap.size w3 b 8 8 1 kw17_1 from H1)
  have HB := Lib.hid (HB.out.trans b1)
  clear H1 b1
  go_wp2_with fail
  refine (hLoad HH.out 268763136 (by decide) (by decide)).mono ?_
  rw [kw17_v, kw17_l]
  rintro e w6 ⟨rfl, b1⟩
  have HH := Lib.hid (HH.out.below b1)
  have HB := Lib.hid (tr HB.out b1)
  clear b1
  go_wp2_with fail
  refine (hHigh HH.out).mono ?_
  rw [kw17_h]
  rintro e w7 ⟨rfl, b1⟩
  have HH := Lib.hid (HH.out.below b1)
  have HB := Lib.hid (tr HB.out b1)
  clear b1
  go_wp2_with fail
  refine (hOut HH.out).mono ?_
  rw [kw17_h, kw17_o]
  rintro e w8 ⟨rfl, b1⟩
  have HH := Lib.hid (HH.out.below b1)
  have HB := Lib.hid (tr HB.out b1)
  clear b1
  go_wp2_with fail
  refine (hStore HH.out HB.out.size 268763140 2147483648 (by decide) (by decide) (by decide) (by decide) kw17_1_e).mono ?_
  rw [kw17_t]
  rintro e w9 ⟨rfl, H1, b1⟩
  have HH := Lib.hid H1
  have HB := Lib.hid (HB.out.trans b1)
  clear H1 b1
  go_wp2_with fail
  refine (bdKnown _).mono ?_
  rintro e w10 ⟨rfl, b1⟩
  have HH := Lib.hid (HH.out.below b1)
  have HB := Lib.hid (tr HB.out b1)
  clear b1
  go_wp2_with fail
  refine (hOut HH.out).mono ?_
  rw [kw17_p]
  rintro e w11 ⟨rfl, b1⟩
  have HB := Lib.hid (tr HB.out b1)
  clear b1 HH
  go_wp2_with fail
  go_ret
  exact ⟨rfl, HB.out⟩
end Go.Proofs.YtcgmnjajodegmaaGreat.B
