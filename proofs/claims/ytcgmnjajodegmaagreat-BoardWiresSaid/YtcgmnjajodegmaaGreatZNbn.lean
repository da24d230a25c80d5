/- BoardWires: a theorem for each place. -/
import Derived.Test.YtcgmnjajodegmaaGreatZNbk
namespace Go.Proofs.YtcgmnjajodegmaaGreat.B
set_option linter.unusedVariables false
set_option linter.unusedSimpArgs false
set_option maxRecDepth 100000
open Go.ChangeShapes Go.WideShapes Go.RowKit Go.Sort
def kw20_0 : Bx := bx0 1
theorem kw20_0_e : kw20_0.es.length < 4294967296 := by decide +kernel
def kw20_1 : Bx := kw20_0.sto 8 8 268500992 3
theorem kw20_1_e : kw20_1.es.length < 4294967296 := by decide +kernel
def kw20_2 : Bx := kw20_1.sto 8 8 268501000 5
theorem kw20_2_e : kw20_2.es.length < 4294967296 := by decide +kernel
def kw20_3 : Bx := kw20_2.tick 3
theorem kw20_3_e : kw20_3.es.length < 4294967296 := by decide +kernel
theorem kw20_s0 : Bx.ste 8 8 268500992 = 0 := by decide +kernel
theorem kw20_s1 : Bx.ste 8 8 268501000 = 0 := by decide +kernel
theorem kw20_h0 : wires 8 8 kw20_0 = 0 := by decide +kernel
theorem kw20_h : wires 8 8 kw20_3 = 256 := by decide +kernel
theorem kw20_v : kw20_3.ldv 8 8 268763136 = 256 := by decide +kernel
theorem kw20_l : Bx.lde 8 8 268763136 = 0 := by decide +kernel
theorem kw20_o : outB 256 kw20_3.msk = false := by decide +kernel
theorem kw20_t : Bx.ste 8 8 268763140 = 0 := by decide +kernel
theorem kw20_p : outB (wires 8 8 (kw20_3.sto 8 8 268763140 256)) (kw20_3.sto 8 8 268763140 256).msk = true := by decide +kernel
set_option maxHeartbeats 3200000 in
theorem wires20 (q i : Int) (w : World) (hq : (IntKind.u64.wrap q).tmod 4 = 2) (hk : (IntKind.u64.wrap i).tmod 8 = 0) :
    Calls Tryz.prog 7 #[.int .i64 q, .int .i64 i] w fun e w' => e = .returned (.bool true) ∧ Below w.heap.size w w' := by
  have HNW := Lib.hid (hNew 8 8 1 w (by decide) (by decide) (by decide) (by decide) (by decide) (by decide))
  go_enter Tryz.func7, Tryz.ntmps7
  go_wp2_with fail
  refine (HNW.out).mono ?_
  rintro e w1 ⟨b, rfl, H1, b1⟩
  have HH := Lib.hid (show Has w.heap.size w1 b 8 8 1 kw20_0 from H1)
  have HB := Lib.hid b1
  clear H1 b1 HNW
  go_wp2_with fail
  refine (hHigh HH.out).mono ?_
  rw [kw20_h0]
  rintro e w2 ⟨rfl, b1⟩
  have HH := Lib.hid (HH.out.below b1)
  have HB := Lib.hid (tr HB.out b1)
  clear b1
  go_wp2_with fail
  refine (hStore HH.out HB.out.size 268500992 3 (by decide) (by decide) (by decide) (by decide) kw20_0_e).mono ?_
  rw [kw20_s0]
  rintro e w3 ⟨rfl, H1, b1⟩
  have HH := Lib.hid (show Has w.heap.size w3 b 8 8 1 kw20_1 from H1)
  have HB := Lib.hid (HB.out.trans b1)
  clear H1 b1
  go_wp2_with fail
  refine (hStore HH.out HB.out.size 268501000 5 (by decide) (by decide) (by decide) (by decide) kw20_1_e).mono ?_
  rw [kw20_s1]
  rintro e w3 ⟨rfl, H1, b1⟩
  have HH := Lib.hid (show Has w.heap.size w3 b 8 8 1 kw20_2 from H1)
  have HB := Lib.hid (HB.out.trans b1)
  clear H1 b1
  go_wp2_with fail
  refine (hTick HH.out HB.out.size 3 (by decide) (by decide) kw20_2_e).mono ?_
  rintro e w3 ⟨rfl, H1, b1⟩
  have HH := Lib.hid (show Has w.heap.size w3 b 8 8 1 kw20_3 from H1)
  have HB := Lib.hid (HB.out.trans b1)
  clear H1 b1
  go_wp2_with fail
  refine (hLoad HH.out 268763136 (by decide) (by decide)).mono ?_
  rw [kw20_v, kw20_l]
  rintro e w6 ⟨rfl, b1⟩
  have HH := Lib.hid (HH.out.below b1)
  have HB := Lib.hid (tr HB.out b1)
  clear b1
  go_wp2_with fail
  refine (hHigh HH.out).mono ?_
  rw [kw20_h]
  rintro e w7 ⟨rfl, b1⟩
  have HH := Lib.hid (HH.out.below b1)
  have HB := Lib.hid (tr HB.out b1)
  clear b1
  go_wp2_with fail
  refine (hOut HH.out).mono ?_
  rw [kw20_h, kw20_o]
  rintro e w8 ⟨rfl, b1⟩
  have HH := Lib.hid (HH.out.below b1)
  have HB := Lib.hid (tr HB.out b1)
  clear b1
  go_wp2_with fail
  refine (hStore HH.out HB.out.size 268763140 256 (by decide) (by decide) (by decide) (by decide) kw20_3_e).mono ?_
  rw [kw20_t]
  rintro e w9 ⟨rfl, H1, b1⟩
  have HH := Lib.hid H1
  have HB := Lib.hid (HB.out.trans b1)
  clear H1 b1
  go_wp2_with fail
  refine (bdKnown _).mono ?_
  rintro e w10 ⟨rfl, b1⟩
  have HH := Lib.hid (HH.out.below b1)
  have HB := Lib.hid (tr HB.out b1)
  clear b1
  go_wp2_with fail
  refine (hOut HH.out).mono ?_
  rw [kw20_p]
  rintro e w11 ⟨rfl, b1⟩
  have HB := Lib.hid (tr HB.out b1)
  clear b1 HH
  go_wp2_with fail
  go_ret
  exact ⟨rfl, HB.out⟩
def kw21_0 : Bx := bx0 1
theorem kw21_0_e : kw21_0.es.length < 4294967296 := by decide +kernel
def kw21_1 : Bx := kw21_0.sto 8 8 268501024 3
theorem kw21_1_e : kw21_1.es.length < 4294967296 := by decide +kernel
def kw21_2 : Bx := kw21_1.sto 8 8 268501032 5
theorem kw21_2_e : kw21_2.es.length < 4294967296 := by decide +kernel
def kw21_3 : Bx := kw21_2.tick 3
theorem kw21_3_e : kw21_3.es.length < 4294967296 := by decide +kernel
theorem kw21_s0 : Bx.ste 8 8 268501024 = 0 := by decide +kernel
theorem kw21_s1 : Bx.ste 8 8 268501032 = 0 := by decide +kernel
theorem kw21_h0 : wires 8 8 kw21_0 = 0 := by decide +kernel
theorem kw21_h : wires 8 8 kw21_3 = 512 := by decide +kernel
theorem kw21_v : kw21_3.ldv 8 8 268763136 = 512 := by decide +kernel
theorem kw21_l : Bx.lde 8 8 268763136 = 0 := by decide +kernel
theorem kw21_o : outB 512 kw21_3.msk = false := by decide +kernel
theorem kw21_t : Bx.ste 8 8 268763140 = 0 := by decide +kernel
theorem kw21_p : outB (wires 8 8 (kw21_3.sto 8 8 268763140 512)) (kw21_3.sto 8 8 268763140 512).msk = true := by decide +kernel
set_option maxHeartbeats 3200000 in
theorem wires21 (q i : Int) (w : World) (hq : (IntKind.u64.wrap q).tmod 4 = 2) (hk : (IntKind.u64.wrap i).tmod 8 = 1) :
    Calls Tryz.prog 7 #[.int .i64 q, .int .i64 i] w fun e w' => e = .returned (.bool true) ∧ Below w.heap.size w w' := by
  have HNW := Lib.hid (hNew 8 8 1 w (by decide) (by decide) (by decide) (by decide) (by decide) (by decide))
  go_enter Tryz.func7, Tryz.ntmps7
  go_wp2_with fail
  refine (HNW.out).mono ?_
  rintro e w1 ⟨b, rfl, H1, b1⟩
  have HH := Lib.hid (show Has w.heap.size w1 b 8 8 1 kw21_0 from H1)
  have HB := Lib.hid b1
  clear H1 b1 HNW
  go_wp2_with fail
  refine (hHigh HH.out).mono ?_
  rw [kw21_h0]
  rintro e w2 ⟨rfl, b1⟩
  have HH := Lib.hid (HH.out.below b1)
  have HB := Lib.hid (tr HB.out b1)
  clear b1
  go_wp2_with fail
  refine (hStore HH.out HB.out.size 268501024 3 (by decide) (by decide) (by decide) (by decide) kw21_0_e).mono ?_
  rw [kw21_s0]
  rintro e w3 ⟨rfl, H1, b1⟩
  have HH := Lib.hid (show Has w.heap.size w3 b 8 8 1 kw21_1 from H1)
  have HB := Lib.hid (HB.out.trans b1)
  clear H1 b1
  go_wp2_with fail
  refine (hStore HH.out HB.out.size 268501032 5 (by decide) (by decide) (by decide) (by decide) kw21_1_e).mono ?_
  rw [kw21_s1]
  rintro e w3 ⟨rfl, H1, b1⟩
  have HH := Lib.hid (show Has w.heap.size w3 b 8 8 1 kw21_2 from H1)
  have HB := Lib.hid (HB.out.trans b1)
  clear H1 b1
  go_wp2_with fail
  refine (hTick HH.out HB.out.size 3 (by decide) (by decide) kw21_2_e).mono ?_
  rintro e w3 ⟨rfl, H1, b1⟩
  have HH := Lib.hid (show Has w.heap.size w3 b 8 8 1 kw21_3 from H1)
  have HB := Lib.hid (HB.out.trans b1)
  clear H1 b1
  go_wp2_with fail
  refine (hLoad HH.out 268763136 (by decide) (by decide)).mono ?_
  rw [kw21_v, kw21_l]
  rintro e w6 ⟨rfl, b1⟩
  have HH := Lib.hid (HH.out.below b1)
  have HB := Lib.hid (tr HB.out b1)
  clear b1
  go_wp2_with fail
  refine (hHigh HH.out).mono ?_
  rw [kw21_h]
  rintro e w7 ⟨rfl, b1⟩
  have HH := Lib.hid (HH.out.below b1)
  have HB := Lib.hid (tr HB.out b1)
  clear b1
  go_wp2_with fail
  refine (hOut HH.out).mono ?_
  rw [kw21_h, kw21_o]
  rintro e w8 ⟨rfl, b1⟩
  have HH := Lib.hid (HH.out.below b1)
  have HB := Lib.hid (tr HB.out b1)
  clear b1
  go_wp2_with fail
  refine (hStore HH.out HB.out.size 268763140 512 (by decide) (by decide) (by decide) (by decide) kw21_3_e).mono ?_
  rw [kw21_t]
  rintro e w9 ⟨rfl, H1, b1⟩
  have HH := Lib.hid H1
  have HB := Lib.hid (HB.out.trans b1)
  clear H1 b1
  go_wp2_with fail
  refine (bdKnown _).mono ?_
  rintro e w10 ⟨rfl, b1⟩
  have HH := Lib.hid (HH.out.below b1)
  have HB := Lib.hid (tr HB.out b1)
  clear b1
  go_wp2_with fail
  refine (hOut HH.out).mono ?_
  rw [kw21_p]
  rintro e w11 ⟨rfl, b1⟩
  have HB := Lib.hid (tr HB.out b1)
  clear b1 HH
  go_wp2_with fail
  go_ret
  exact ⟨rfl, HB.out⟩
def kw22_0 : Bx := bx0 1
theorem kw22_0_e : kw22_0.es.length < 4294967296 := by decide +kernel
def kw22_1 : Bx := kw22_0.sto 8 8 268501056 3
theorem kw22_1_e : kw22_1.es.length < 4294967296 := by decide +kernel
def kw22_2 : Bx := kw22_1.sto 8 8 268501064 5
theorem kw22_2_e : kw22_2.es.length < 4294967296 := by decide +kernel
def kw22_3 : Bx := kw22_2.tick 3
theorem kw22_3_e : kw22_3.es.length < 4294967296 := by decide +kernel
theorem kw22_s0 : Bx.ste 8 8 268501056 = 0 := by decide +kernel
theorem kw22_s1 : Bx.ste 8 8 268501064 = 0 := by decide +kernel
theorem kw22_h0 : wires 8 8 kw22_0 = 0 := by decide +kernel
theorem kw22_h : wires 8 8 kw22_3 = 1024 := by decide +kernel
theorem kw22_v : kw22_3.ldv 8 8 268763136 = 1024 := by decide +kernel
theorem kw22_l : Bx.lde 8 8 268763136 = 0 := by decide +kernel
theorem kw22_o : outB 1024 kw22_3.msk = false := by decide +kernel
theorem kw22_t : Bx.ste 8 8 268763140 = 0 := by decide +kernel
theorem kw22_p : outB (wires 8 8 (kw22_3.sto 8 8 268763140 1024)) (kw22_3.sto 8 8 268763140 1024).msk = true := by decide +kernel
set_option maxHeartbeats 3200000 in
theorem wires22 (q i : Int) (w : World) (hq : (IntKind.u64.wrap q).tmod 4 = 2) (hk : (IntKind.u64.wrap i).tmod 8 = 2) :
    Calls Tryz.prog 7 #[.int .i64 q, .int .i64 i] w fun e w' => e = .returned (.bool true) ∧ Below w.heap.size w w' := by
  have HNW := Lib.hid (hNew 8 8 1 w (by decide) (by decide) (by decide) (by decide) (by decide) (by decide))
  go_enter Tryz.func7, Tryz.ntmps7
  go_wp2_with fail
  refine (HNW.out).mono ?_
  rintro e w1 ⟨b, rfl, H1, b1⟩
  have HH := Lib.hid (show Has w.heap.size w1 b 8 8 1 kw22_0 from H1)
  have HB := Lib.hid b1
  clear H1 b1 HNW
  go_wp2_with fail
  refine (hHigh HH.out).mono ?_
  rw [kw22_h0]
  rintro e w2 ⟨rfl, b1⟩
  have HH := Lib.hid (HH.out.below b1)
  have HB := Lib.hid (tr HB.out b1)
  clear b1
  go_wp2_with fail
  refine (hStore HH.out HB.out.size 268501056 3 (by decide) (by decide) (by decide) (by decide) kw22_0_e).mono ?_
  rw [kw22_s0]
  rintro e w3 ⟨rfl, H1, b1⟩
  have HH := Lib.hid (show Has w.heap.size w3 b 8 8 1 kw22_1 from H1)
  have HB := Lib.hid (HB.out.trans b1)
  clear H1 b1
  go_wp2_with fail
  refine (hStore HH.out HB.out.size 268501064 5 (by decide) (by decide) (by decide) (by decide) kw22_1_e).mono ?_
  rw [kw22_s1]
  rintro e w3 ⟨rfl, H1, b1⟩
  have HH := Lib.hid (show Has w.heap.size w3 b 8 8 1 kw22_2 from H1)
  have HB := Lib.hid (HB.out.trans b1)
  clear H1 b1
  go_wp2_with fail
  refine (hTick HH.out HB.out.size 3 (by decide) (by decide) kw22_2_e).mono ?_
  rintro e w3 ⟨rfl, H1, b1⟩
  have HH := Lib.hid (show Has w.heap.size w3 b 8 8 1 kw22_3 from H1)
  have HB := Lib.hid (HB.out.trans b1)
  clear H1 b1
  go_wp2_with fail
  refine (hLoad HH.out 268763136 (by decide) (by decide)).mono ?_
  rw [kw22_v, kw22_l]
  rintro e w6 ⟨rfl, b1⟩
  have HH := Lib.hid (HH.out.below b1)
  have HB := Lib.hid (tr HB.out b1)
  clear b1
  go_wp2_with fail
  refine (hHigh HH.out).mono ?_
  rw [kw22_h]
  rintro e w7 ⟨rfl, b1⟩
  have HH := Lib.hid (HH.out.below b1)
  have HB := Lib.hid (tr HB.out b1)
  clear b1
  go_wp2_with fail
  refine (hOut HH.out).mono ?_
  rw [kw22_h, kw22_o]
  rintro e w8 ⟨rfl, b1⟩
  have HH := Lib.hid (HH.out.below b1)
  have HB := Lib.hid (tr HB.out b1)
  clear b1
  go_wp2_with fail
  refine (hStore HH.out HB.out.size 268763140 1024 (by decide) (by decide) (by decide) (by decide) kw22_3_e).mono ?_
  rw [kw22_t]
  rintro e w9 ⟨rfl, H1, b1⟩
  have HH := Lib.hid H1
  have HB := Lib.hid (HB.out.trans b1)
  clear H1 b1
  go_wp2_with fail
  refine (bdKnown _).mono ?_
  rintro e w10 ⟨rfl, b1⟩
  have HH := Lib.hid (HH.out.below b1)
  have HB := Lib.hid (tr HB.out b1)
  clear b1
  go_wp2_with fail
  refine (hOut HH.out).mono ?_
  rw [kw22_p]
  rintro e w11 ⟨rfl, b1⟩
  have HB := Lib.hid (tr HB.out b1)
  clear b1 HH
  go_wp2_with fail
  go_ret
  exact ⟨rfl, HB.out⟩
def kw23_0 : Bx := bx0 1
theorem kw23_0_e : kw23_0.es.length < 4294967296 := by decide +kernel
def kw23_1 : Bx := kw23_0.sto 8 8 268501088 3
theorem kw23_1_e : kw23_1.es.length < 4294967296 := by decide +kernel
def kw23_2 : Bx := kw23_1.sto 8 8 268501096 5
theorem kw23_2_e : kw23_2.es.length < 4294967296 := by decide +kernel
def kw23_3 : Bx := kw23_2.tick 3
theorem kw23_3_e : kw23_3.es.length < 4294967296 := by decide +kernel
theorem kw23_s0 : Bx.ste 8 8 268501088 = 0 := by decide +kernel
theorem kw23_s1 : Bx.ste 8 8 268501096 = 0 := by decide +kernel
theorem kw23_h0 : wires 8 8 kw23_0 = 0 := by decide +kernel
theorem kw23_h : wires 8 8 kw23_3 = 2048 := by decide +kernel
theorem kw23_v : kw23_3.ldv 8 8 268763136 = 2048 := by decide +kernel
theorem kw23_l : Bx.lde 8 8 268763136 = 0 := by decide +kernel
theorem kw23_o : outB 2048 kw23_3.msk = false := by decide +kernel
theorem kw23_t : Bx.ste 8 8 268763140 = 0 := by decide +kernel
theorem kw23_p : outB (wires 8 8 (kw23_3.sto 8 8 268763140 2048)) (kw23_3.sto 8 8 268763140 2048).msk = true := by decide +kernel
set_option maxHeartbeats 3200000 in
theorem wires23 (q i : Int) (w : World) (hq : (IntKind.u64.wrap q).tmod 4 = 2) (hk : (IntKind.u64.wrap i).tmod 8 = 3) :
    Calls Tryz.prog 7 #[.int .i64 q, .int .i64 i] w fun e w' => e = .returned (.bool true) ∧ Below w.heap.size w w' := by
  have HNW := Lib.hid (hNew 8 8 1 w (by decide) (by decide) (by decide) (by decide) (by decide) (by decide))
  go_enter Tryz.func7, Tryz.ntmps7
  go_wp2_with fail
  refine (HNW.out).mono ?_
  rintro e w1 ⟨b, rfl, H1, b1⟩
  have HH := Lib.hid (show Has w.heap.size w1 b 8 8 1 kw23_0 from H1)
  have HB := Lib.hid b1
  clear H1 b1 HNW
  go_wp2_with fail
  refine (hHigh HH.out).mono ?_
  rw [kw23_h0]
  rintro e w2 ⟨rfl, b1⟩
  have HH := Lib.hid (HH.out.below b1)
  have HB := Lib.hid (tr HB.out b1)
  clear b1
  go_wp2_with fail
  refine (hStore HH.out HB.out.size 268501088 3 (by decide) (by decide) (by decide) (by decide) kw23_0_e).mono ?_
  rw [kw23_s0]
  rintro e w3 ⟨rfl, H1, b1⟩
  have HH := Lib.hid (show Has w.heap.size w3 b 8 8 1 kw23_1 from H1)
  have HB := Lib.hid (HB.out.trans b1)
  clear H1 b1
  go_wp2_with fail
  refine (hStore HH.out HB.out.size 268501096 5 (by decide) (by decide) (by decide) (by decide) kw23_1_e).mono ?_
  rw [kw23_s1]
  rintro e w3 ⟨rfl, H1, b1⟩
  have HH := Lib.hid (show Has w.heap.size w3 b 8 8 1 kw23_2 from H1)
  have HB := Lib.hid (HB.out.trans b1)
  clear H1 b1
  go_wp2_with fail
  refine (hTick HH.out HB.out.size 3 (by decide) (by decide) kw23_2_e).mono ?_
  rintro e w3 ⟨rfl, H1, b1⟩
  have HH := Lib.hid (show Has w.heap.size w3 b 8 8 1 kw23_3 from H1)
  have HB := Lib.hid (HB.out.trans b1)
  clear H1 b1
  go_wp2_with fail
  refine (hLoad HH.out 268763136 (by decide) (by decide)).mono ?_
  rw [kw23_v, kw23_l]
  rintro e w6 ⟨rfl, b1⟩
  have HH := Lib.hid (HH.out.below b1)
  have HB := Lib.hid (tr HB.out b1)
  clear b1
  go_wp2_with fail
  refine (hHigh HH.out).mono ?_
  rw [kw23_h]
  rintro e w7 ⟨rfl, b1⟩
  have HH := Lib.hid (HH.out.below b1)
  have HB := Lib.hid (tr HB.out b1)
  clear b1
  go_wp2_with fail
  refine (hOut HH.out).mono ?_
  rw [kw23_h, kw23_o]
  rintro e w8 ⟨rfl, b1⟩
  have HH := Lib.hid (HH.out.below b1)
  have HB := Lib.hid (tr HB.out b1)
  clear b1
  go_wp2_with fail
  refine (hStore HH.out HB.out.size 268763140 2048 (by decide) (by decide) (by decide) (by decide) kw23_3_e).mono ?_
  rw [kw23_t]
  rintro e w9 ⟨rfl, H1, b1⟩
  have HH := Lib.hid H1
  have HB := Lib.hid (HB.out.trans b1)
  clear H1 b1
  go_wp2_with fail
  refine (bdKnown _).mono ?_
  rintro e w10 ⟨rfl, b1⟩
  have HH := Lib.hid (HH.out.below b1)
  have HB := Lib.hid (tr HB.out b1)
  clear b1
  go_wp2_with fail
  refine (hOut HH.out).mono ?_
  rw [kw23_p]
  rintro e w11 ⟨rfl, b1⟩
  have HB := Lib.hid (tr HB.out b1)
  clear b1 HH
  go_wp2_with fail
  go_ret
  exact ⟨rfl, HB.out⟩
def kw24_0 : Bx := bx0 1
theorem kw24_0_e : kw24_0.es.length < 4294967296 := by decide +kernel
def kw24_1 : Bx := kw24_0.sto 8 8 268501120 3
theorem kw24_1_e : kw24_1.es.length < 4294967296 := by decide +kernel
def kw24_2 : Bx := kw24_1.sto 8 8 268501128 5
theorem kw24_2_e : kw24_2.es.length < 4294967296 := by decide +kernel
def kw24_3 : Bx := kw24_2.tick 3
theorem kw24_3_e : kw24_3.es.length < 4294967296 := by decide +kernel
theorem kw24_s0 : Bx.ste 8 8 268501120 = 0 := by decide +kernel
theorem kw24_s1 : Bx.ste 8 8 268501128 = 0 := by decide +kernel
theorem kw24_h0 : wires 8 8 kw24_0 = 0 := by decide +kernel
theorem kw24_h : wires 8 8 kw24_3 = 4096 := by decide +kernel
theorem kw24_v : kw24_3.ldv 8 8 268763136 = 4096 := by decide +kernel
theorem kw24_l : Bx.lde 8 8 268763136 = 0 := by decide +kernel
theorem kw24_o : outB 4096 kw24_3.msk = false := by decide +kernel
theorem kw24_t : Bx.ste 8 8 268763140 = 0 := by decide +kernel
theorem kw24_p : outB (wires 8 8 (kw24_3.sto 8 8 268763140 4096)) (kw24_3.sto 8 8 268763140 4096).msk = true := by decide +kernel
set_option maxHeartbeats 3200000 in
theorem wires24 (q i : Int) (w : World) (hq : (IntKind.u64.wrap q).tmod 4 = 2) (hk : (IntKind.u64.wrap i).tmod 8 = 4) :
    Calls Tryz.prog 7 #[.int .i64 q, .int .i64 i] w fun e w' => e = .returned (.bool true) ∧ Below w.heap.size w w' := by
  have HNW := Lib.hid (hNew 8 8 1 w (by decide) (by decide) (by decide) (by decide) (by decide) (by decide))
  go_enter Tryz.func7, Tryz.ntmps7
  go_wp2_with fail
  refine (HNW.out).mono ?_
  rintro e w1 ⟨b, rfl, H1, b1⟩
  have HH := Lib.hid (show Has w.heap.size w1 b 8 8 1 kw24_0 from H1)
  have HB := Lib.hid b1
  clear H1 b1 HNW
  go_wp2_with fail
  refine (hHigh HH.out).mono ?_
  rw [kw24_h0]
  rintro e w2 ⟨rfl, b1⟩
  have HH := Lib.hid (HH.out.below b1)
  have HB := Lib.hid (tr HB.out b1)
  clear b1
  go_wp2_with fail
  refine (hStore HH.out HB.out.size 268501120 3 (by decide) (by decide) (by decide) (by decide) kw24_0_e).mono ?_
  rw [kw24_s0]
  rintro e w3 ⟨rfl, H1, b1⟩
  have HH := Lib.hid (show Has w.heap.size w3 b 8 8 1 kw24_1 from H1)
  have HB := Lib.hid (HB.out.trans b1)
  clear H1 b1
  go_wp2_with fail
  refine (hStore HH.out HB.out.size 268501128 5 (by decide) (by decide) (by decide) (by decide) kw24_1_e).mono ?_
  rw [kw24_s1]
  rintro e w3 ⟨rfl, H1, b1⟩
  have HH := Lib.hid (show Has w.heap.size w3 b 8 8 1 kw24_2 from H1)
  have HB := Lib.hid (HB.out.trans b1)
  clear H1 b1
  go_wp2_with fail
  refine (hTick HH.out HB.out.size 3 (by decide) (by decide) kw24_2_e).mono ?_
  rintro e w3 ⟨rfl, H1, b1⟩
  have HH := Lib.hid (show Has w.heap.size w3 b 8 8 1 kw24_3 from H1)
  have HB := Lib.hid (HB.out.trans b1)
  clear H1 b1
  go_wp2_with fail
  refine (hLoad HH.out 268763136 (by decide) (by decide)).mono ?_
  rw [kw24_v, kw24_l]
  rintro e w6 ⟨rfl, b1⟩
  have HH := Lib.hid (HH.out.below b1)
  have HB := Lib.hid (tr HB.out b1)
  clear b1
  go_wp2_with fail
  refine (hHigh HH.out).mono ?_
  rw [kw24_h]
  rintro e w7 ⟨rfl, b1⟩
  have HH := Lib.hid (HH.out.below b1)
  have HB := Lib.hid (tr HB.out b1)
  clear b1
  go_wp2_with fail
  refine (hOut HH.out).mono ?_
  rw [kw24_h, kw24_o]
  rintro e w8 ⟨rfl, b1⟩
  have HH := Lib.hid (HH.out.below b1)
  have HB := Lib.hid (tr HB.out b1)
  clear b1
  go_wp2_with fail
  refine (hStore HH.out HB.out.size 268763140 4096 (by decide) (by decide) (by decide) (by decide) kw24_3_e).mono ?_
  rw [kw24_t]
  rintro e w9 ⟨rfl, H1, b1⟩
  have HH := Lib.hid H1
  have HB := Lib.hid (HB.out.trans b1)
  clear H1 b1
  go_wp2_with fail
  refine (bdKnown _).mono ?_
  rintro e w10 ⟨rfl, b1⟩
  have HH := Lib.hid (HH.out.below b1)
  have HB := Lib.hid (tr HB.out b1)
  clear b1
  go_wp2_with fail
  refine (hOut HH.out).mono ?_
  rw [kw24_p]
  rintro e w11 ⟨rfl, b1⟩
  have HB := Lib.hid (tr HB.out b1)
  clear b1 HH
  go_wp2_with fail
  go_ret
  exact ⟨rfl, HB.out⟩
def kw25_0 : Bx := bx0 1
theorem kw25_0_e : kw25_0.es.length < 4294967296 := by decide +kernel
def kw25_1 : Bx := kw25_0.sto 8 8 268501152 3
theorem kw25_1_e : kw25_1.es.length < 4294967296 := by decide +kernel
def kw25_2 : Bx := kw25_1.sto 8 8 268501160 5
theorem kw25_2_e : kw25_2.es.length < 4294967296 := by decide +kernel
def kw25_3 : Bx := kw25_2.tick 3
theorem kw25_3_e : kw25_3.es.length < 4294967296 := by decide +kernel
theorem kw25_s0 : Bx.ste 8 8 268501152 = 0 := by decide +kernel
theorem kw25_s1 : Bx.ste 8 8 268501160 = 0 := by decide +kernel
theorem kw25_h0 : wires 8 8 kw25_0 = 0 := by decide +kernel
theorem kw25_h : wires 8 8 kw25_3 = 8192 := by decide +kernel
theorem kw25_v : kw25_3.ldv 8 8 268763136 = 8192 := by decide +kernel
theorem kw25_l : Bx.lde 8 8 268763136 = 0 := by decide +kernel
theorem kw25_o : outB 8192 kw25_3.msk = false := by decide +kernel
theorem kw25_t : Bx.ste 8 8 268763140 = 0 := by decide +kernel
theorem kw25_p : outB (wires 8 8 (kw25_3.sto 8 8 268763140 8192)) (kw25_3.sto 8 8 268763140 8192).msk = true := by decide +kernel
set_option maxHeartbeats 3200000 in
theorem wires25 (q i : Int) (w : World) (hq : (IntKind.u64.wrap q).tmod 4 = 2) (hk : (IntKind.u64.wrap i).tmod 8 = 5) :
    Calls Tryz.prog 7 #[.int .i64 q, .int .i64 i] w fun e w' => e = .returned (.bool true) ∧ Below w.heap.size w w' := by
  have HNW := Lib.hid (hNew 8 8 1 w (by decide) (by decide) (by decide) (by decide) (by decide) (by decide))
  go_enter Tryz.func7, Tryz.ntmps7
  go_wp2_with fail
  refine (HNW.out).mono ?_
  rintro e w1 ⟨b, rfl, H1, b1⟩
  have HH := Lib.hid (show Has w.heap.size w1 b 8 8 1 kw25_0 from H1)
  have HB := Lib.hid b1
  clear H1 b1 HNW
  go_wp2_with fail
  refine (hHigh HH.out).mono ?_
  rw [kw25_h0]
  rintro e w2 ⟨rfl, b1⟩
  have HH := Lib.hid (HH.out.below b1)
  have HB := Lib.hid (tr HB.out b1)
  clear b1
  go_wp2_with fail
  refine (hStore HH.out HB.out.size 268501152 3 (by decide) (by decide) (by decide) (by decide) kw25_0_e).mono ?_
  rw [kw25_s0]
  rintro e w3 ⟨rfl, H1, b1⟩
  have HH := Lib.hid (show Has w.heap.size w3 b 8 8 1 kw25_1 from H1)
  have HB := Lib.hid (HB.out.trans b1)
  clear H1 b1
  go_wp2_with fail
  refine (hStore HH.out HB.out.size 268501160 5 (by decide) (by decide) (by decide) (by decide) kw25_1_e).mono ?_
  rw [kw25_s1]
  rintro e w3 ⟨rfl, H1, b1⟩
  have HH := Lib.hid (show Has w.heap.size w3 b 8 8 1 kw25_2 from H1)
  have HB := Lib.hid (HB.out.trans b1)
  clear H1 b1
  go_wp2_with fail
  refine (hTick HH.out HB.out.size 3 (by decide) (by decide) kw25_2_e).mono ?_
  rintro e w3 ⟨rfl, H1, b1⟩
  have HH := Lib.hid (show Has w.heap.size w3 b 8 8 1 kw25_3 from H1)
  have HB := Lib.hid (HB.out.trans b1)
  clear H1 b1
  go_wp2_with fail
  refine (hLoad HH.out 268763136 (by decide) (by decide)).mono ?_
  rw [kw25_v, kw25_l]
  rintro e w6 ⟨rfl, b1⟩
  have HH := Lib.hid (HH.out.below b1)
  have HB := Lib.hid (tr HB.out b1)
  clear b1
  go_wp2_with fail
  refine (hHigh HH.out).mono ?_
  rw [kw25_h]
  rintro e w7 ⟨rfl, b1⟩
  have HH := Lib.hid (HH.out.below b1)
  have HB := Lib.hid (tr HB.out b1)
  clear b1
  go_wp2_with fail
  refine (hOut HH.out).mono ?_
  rw [kw25_h, kw25_o]
  rintro e w8 ⟨rfl, b1⟩
  have HH := Lib.hid (HH.out.below b1)
  have HB := Lib.hid (tr HB.out b1)
  clear b1
  go_wp2_with fail
  refine (hStore HH.out HB.out.size 268763140 8192 (by decide) (by decide) (by decide) (by decide) kw25_3_e).mono ?_
  rw [kw25_t]
  rintro e w9 ⟨rfl, H1, b1⟩
  have HH := Lib.hid H1
  have HB := Lib.hid (HB.out.trans b1)
  clear H1 b1
  go_wp2_with fail
  refine (bdKnown _).mono ?_
  rintro e w10 ⟨rfl, b1⟩
  have HH := Lib.hid (HH.out.below b1)
  have HB := Lib.hid (tr HB.out b1)
  clear b1
  go_wp2_with fail
  refine (hOut HH.out).mono ?_
  rw [kw25_p]
  rintro e w11 ⟨rfl, b1⟩
  have HB := Lib.hid (tr HB.out b1)
  clear b1 HH
  go_wp2_with fail
  go_ret
  exact ⟨rfl, HB.out⟩
def kw26_0 : Bx := bx0 1
theorem kw26_0_e : kw26_0.es.length < 4294967296 := by decide +kernel
def kw26_1 : Bx := kw26_0.sto 8 8 268501184 3
theorem kw26_1_e : kw26_1.es.length < 4294967296 := by decide +kernel
def kw26_2 : Bx := kw26_1.sto 8 8 268501192 5
theorem kw26_2_e : kw26_2.es.length < 4294967296 := by decide +kernel
def kw26_3 : Bx := kw26_2.tick 3
theorem kw26_3_e : kw26_3.es.length < 4294967296 := by decide +kernel
theorem kw26_s0 : Bx.ste 8 8 268501184 = 0 := by decide +kernel
theorem kw26_s1 : Bx.ste 8 8 268501192 = 0 := by decide +kernel
theorem kw26_h0 : wires 8 8 kw26_0 = 0 := by decide +kernel
theorem kw26_h : wires 8 8 kw26_3 = 16384 := by decide +kernel
theorem kw26_v : kw26_3.ldv 8 8 268763136 = 16384 := by decide +kernel
theorem kw26_l : Bx.lde 8 8 268763136 = 0 := by decide +kernel
theorem kw26_o : outB 16384 kw26_3.msk = false := by decide +kernel
theorem kw26_t : Bx.ste 8 8 268763140 = 0 := by decide +kernel
theorem kw26_p : outB (wires 8 8 (kw26_3.sto 8 8 268763140 16384)) (kw26_3.sto 8 8 268763140 16384).msk = true := by decide +kernel
set_option maxHeartbeats 3200000 in
theorem wires26 (q i : Int) (w : World) (hq : (IntKind.u64.wrap q).tmod 4 = 2) (hk : (IntKind.u64.wrap i).tmod 8 = 6) :
    Calls Tryz.prog 7 #[.int .i64 q, .int .i64 i] w fun e w' => e = .returned (.bool true) ∧ Below w.heap.size w w' := by
  have HNW := Lib.hid (hNew 8 8 1 w (by decide) (by decide) (by decide) (by decide) (by decide) (by decide))
  go_enter Tryz.func7, Tryz.ntmps7
  go_wp2_with fail
  refine (HNW.out).mono ?_
  rintro e w1 ⟨b, rfl, H1, b1⟩
  have HH := Lib.hid (show Has w.heap.size w1 b 8 8 1 kw26_0 from H1)
  have HB := Lib.hid b1
  clear H1 b1 HNW
  go_wp2_with fail
  refine (hHigh HH.out).mono ?_
  rw [kw26_h0]
  rintro e w2 ⟨rfl, b1⟩
  have HH := Lib.hid (HH.out.below b1)
  have HB := Lib.hid (tr HB.out b1)
  clear b1
  go_wp2_with fail
  refine (hStore HH.out HB.out.size 268501184 3 (by decide) (by decide) (by decide) (by decide) kw26_0_e).mono ?_
  rw [kw26_s0]
  rintro e w3 ⟨rfl, H1, b1⟩
  have HH := Lib.hid (show Has w.heap.size w3 b 8 8 1 kw26_1 from H1)
  have HB := Lib.hid (HB.out.trans b1)
  clear H1 b1
  go_wp2_with fail
  refine (hStore HH.out HB.out.size 268501192 5 (by decide) (by decide) (by decide) (by decide) kw26_1_e).mono ?_
  rw [kw26_s1]
  rintro e w3 ⟨rfl, H1, b1⟩
  have HH := Lib.hid (show Has w.heap.size w3 b 8 8 1 kw26_2 from H1)
  have HB := Lib.hid (HB.out.trans b1)
  clear H1 b1
  go_wp2_with fail
  refine (hTick HH.out HB.out.size 3 (by decide) (by decide) kw26_2_e).mono ?_
  rintro e w3 ⟨rfl, H1, b1⟩
  have HH := Lib.hid (show Has w.heap.size w3 b 8 8 1 kw26_3 from H1)
  have HB := Lib.hid (HB.out.trans b1)
  clear H1 b1
  go_wp2_with fail
  refine (hLoad HH.out 268763136 (by decide) (by decide)).mono ?_
  rw [kw26_v, kw26_l]
  rintro e w6 ⟨rfl, b1⟩
  have HH := Lib.hid (HH.out.below b1)
  have HB := Lib.hid (tr HB.out b1)
  clear b1
  go_wp2_with fail
  refine (hHigh HH.out).mono ?_
  rw [kw26_h]
  rintro e w7 ⟨rfl, b1⟩
  have HH := Lib.hid (HH.out.below b1)
  have HB := Lib.hid (tr HB.out b1)
  clear b1
  go_wp2_with fail
  refine (hOut HH.out).mono ?_
  rw [kw26_h, kw26_o]
  rintro e w8 ⟨rfl, b1⟩
  have HH := Lib.hid (HH.out.below b1)
  have HB := Lib.hid (tr HB.out b1)
  clear b1
  go_wp2_with fail
  refine (hStore HH.out HB.out.size 268763140 16384 (by decide) (by decide) (by decide) (by decide) kw26_3_e).mono ?_
  rw [kw26_t]
  rintro e w9 ⟨rfl, H1, b1⟩
  have HH := Lib.hid H1
  have HB := Lib.hid (HB.out.trans b1)
  clear H1 b1
  go_wp2_with fail
  refine (bdKnown _).mono ?_
  rintro e w10 ⟨rfl, b1⟩
  have HH := Lib.hid (HH.out.below b1)
  have HB := Lib.hid (tr HB.out b1)
  clear b1
  go_wp2_with fail
  refine (hOut HH.out).mono ?_
  rw [kw26_p]
  rintro e w11 ⟨rfl, b1⟩
  have HB := Lib.hid (tr HB.out b1)
  clear b1 HH
  go_wp2_with fail
  go_ret
  exact ⟨rfl, HB.out⟩
def kw27_0 : Bx := bx0 1
theorem kw27_0_e : kw27_0.es.length < 4294967296 := by decide +kernel
def kw27_1 : Bx := kw27_0.sto 8 8 268501216 3
theorem kw27_1_e : kw27_1.es.length < 4294967296 := by decide +kernel
def kw27_2 : Bx := kw27_1.sto 8 8 268501224 5
theorem kw27_2_e : kw27_2.es.length < 4294967296 := by decide +kernel
def kw27_3 : Bx := kw27_2.tick 3
theorem kw27_3_e : kw27_3.es.length < 4294967296 := by decide +kernel
theorem kw27_s0 : Bx.ste 8 8 268501216 = 0 := by decide +kernel
theorem kw27_s1 : Bx.ste 8 8 268501224 = 0 := by decide +kernel
theorem kw27_h0 : wires 8 8 kw27_0 = 0 := by decide +kernel
theorem kw27_h : wires 8 8 kw27_3 = 32768 := by decide +kernel
theorem kw27_v : kw27_3.ldv 8 8 268763136 = 32768 := by decide +kernel
theorem kw27_l : Bx.lde 8 8 268763136 = 0 := by decide +kernel
theorem kw27_o : outB 32768 kw27_3.msk = false := by decide +kernel
theorem kw27_t : Bx.ste 8 8 268763140 = 0 := by decide +kernel
theorem kw27_p : outB (wires 8 8 (kw27_3.sto 8 8 268763140 32768)) (kw27_3.sto 8 8 268763140 32768).msk = true := by decide +kernel
set_option maxHeartbeats 3200000 in
theorem wires27 (q i : Int) (w : World) (hq : (IntKind.u64.wrap q).tmod 4 = 2) (hk : (IntKind.u64.wrap i).tmod 8 = 7) :
    Calls Tryz.prog 7 #[.int .i64 q, .int .i64 i] w fun e w' => e = .returned (.bool true) ∧ Below w.heap.size w w' := by
  have HNW := Lib.hid (hNew 8 8 1 w (by decide) (by decide) (by decide) (by decide) (by decide) (by decide))
  go_enter Tryz.func7, Tryz.ntmps7
  go_wp2_with fail
  refine (HNW.out).mono ?_
  rintro e w1 ⟨b, rfl, H1, b1⟩
  have HH := Lib.hid (show Has w.heap.size w1 b 8 8 1 kw27_0 from H1)
  have HB := Lib.hid b1
  clear H1 b1 HNW
  go_wp2_with fail
  refine (hHigh HH.out).mono ?_
  rw [kw27_h0]
  rintro e w2 ⟨rfl, b1⟩
  have HH := Lib.hid (HH.out.below b1)
  have HB := Lib.hid (tr HB.out b1)
  clear b1
  go_wp2_with fail
  refine (hStore HH.out HB.out.size 268501216 3 (by decide) (by decide) (by decide) (by decide) kw27_0_e).mono ?_
  rw [kw27_s0]
  rintro e w3 ⟨rfl, H1, b1⟩
  have HH := Lib.hid (show Has w.heap.size w3 b 8 8 1 kw27_1 from H1)
  have HB := Lib.hid (HB.out.trans b1)
  clear H1 b1
  go_wp2_with fail
  refine (hStore HH.out HB.out.size 268501224 5 (by decide) (by decide) (by decide) (by decide) kw27_1_e).mono ?_
  rw [kw27_s1]
  rintro e w3 ⟨rfl, H1, b1⟩
  have HH := Lib.hid (show Has w.heap.size w3 b 8 8 1 kw27_2 from H1)
  have HB := Lib.hid (HB.out.trans b1)
  clear H1 b1
  go_wp2_with fail
  refine (hTick HH.out HB.out.size 3 (by decide) (by decide) kw27_2_e).mono ?_
  rintro e w3 ⟨rfl, H1, b1⟩
  have HH := Lib.hid (show Has w.heap.size w3 b 8 8 1 kw27_3 from H1)
  have HB := Lib.hid (HB.out.trans b1)
  clear H1 b1
  go_wp2_with fail
  refine (hLoad HH.out 268763136 (by decide) (by decide)).mono ?_
  rw [kw27_v, kw27_l]
  rintro e w6 ⟨rfl, b1⟩
  have HH := Lib.hid (HH.out.below b1)
  have HB := Lib.hid (tr HB.out b1)
  clear b1
  go_wp2_with fail
  refine (hHigh HH.out).mono ?_
  rw [kw27_h]
  rintro e w7 ⟨rfl, b1⟩
  have HH := Lib.hid (HH.out.below b1)
  have HB := Lib.hid (tr HB.out b1)
  clear b1
  go_wp2_with fail
  refine (hOut HH.out).mono ?_
  rw [kw27_h, kw27_o]
  rintro e w8 ⟨rfl, b1⟩
  have HH := Lib.hid (HH.out.below b1)
  have HB := Lib.hid (tr HB.out b1)
  clear b1
  go_wp2_with fail
  refine (hStore HH.out HB.out.size 268763140 32768 (by decide) (by decide) (by decide) (by decide) kw27_3_e).mono ?_
  rw [kw27_t]
  rintro e w9 ⟨rfl, H1, b1⟩
  have HH := Lib.hid H1
  have HB := Lib.hid (HB.out.trans b1)
  clear H1 b1
  go_wp2_with fail
  refine (bdKnown _).mono ?_
  rintro e w10 ⟨rfl, b1⟩
  have HH := Lib.hid (HH.out.below b1)
  have HB := Lib.hid (tr HB.out b1)
  clear b1
  go_wp2_with fail
  refine (hOut HH.out).mono ?_
  rw [kw27_p]
  rintro e w11 ⟨rfl, b1⟩
  have HB := Lib.hid (tr HB.out b1)
  clear b1 HH
  go_wp2_with fail
  go_ret
  exact ⟨rfl, HB.out⟩
end Go.Proofs.YtcgmnjajodegmaaGreat.B
