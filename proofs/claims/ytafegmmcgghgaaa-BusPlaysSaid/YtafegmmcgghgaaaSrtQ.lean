/- slices.Sort at uint32: choosePivot. -/
import Derived.Test.YtafegmmcgghgaaaSrtP
namespace Go.Proofs.Ytafegmmcgghgaaa.B
set_option linter.unusedVariables false
set_option linter.unusedSimpArgs false
open Go.ChangeShapes Go.WideShapes Go.RowKit Go.Sort
theorem off_below' {w a b : World} (h : Below w.heap.size w a) (hq : Off (· = w.heap.size) a b) : Below w.heap.size w b := h.trans (hq.below (fun k hk e => by omega) h.size)
def hintN : Hint → Int
  | .increasing => 1
  | .decreasing => 2
  | .unknown => 0
set_option maxHeartbeats 3200000 in
theorem sPivot (g n cap a b : Nat) (d : Array Int) (w : World) (h : DAt w g d) (hab : a < b) (hb : b ≤ d.size) (hn : d.size = n) (hc : n ≤ cap) (hm : cap ≤ 9223372036854775807) (hm2 : n < 1152921504606846976) :
    Calls Try.prog 79 #[.slice (some ⟨g, 0, none⟩) n cap, .int .i64 a, .int .i64 b] w
      fun e w' => e = .returned (.tuple #[.int .i64 (choosePivot ltU d a b).1, .int .i64 (hintN (choosePivot ltU d a b).2)]) ∧ Below w.heap.size w w' := by
  obtain ⟨l, e1⟩ : ∃ l : Nat, (b : Int) - (a : Int) = (l : Int) := ⟨b - a, by omega⟩
  have el : b - a = l := by omega
  obtain ⟨k4, e2⟩ : ∃ k4 : Nat, l / 4 = k4 := ⟨_, rfl⟩
  have e2' : (l : Int) / 4 = (k4 : Int) := by omega
  have e2'' : (l : Int).tdiv 4 = (k4 : Int) := by rw [Int.tdiv_eq_ediv_of_nonneg (by omega)]; omega
  obtain ⟨i, e3⟩ : ∃ i : Nat, (a : Int) + (k4 : Int) = (i : Int) := ⟨a + k4, by omega⟩
  obtain ⟨m2, e4⟩ : ∃ m : Nat, (k4 : Int) * 2 = (m : Int) := ⟨k4 * 2, by omega⟩
  obtain ⟨j, e5⟩ : ∃ j : Nat, (a : Int) + (m2 : Int) = (j : Int) := ⟨a + m2, by omega⟩
  obtain ⟨m3, e6⟩ : ∃ m : Nat, (k4 : Int) * 3 = (m : Int) := ⟨k4 * 3, by omega⟩
  obtain ⟨k, e7⟩ : ∃ k : Nat, (a : Int) + (m3 : Int) = (k : Int) := ⟨a + m3, by omega⟩
  have ei : a + k4 * 1 = i := by omega
  have ej : a + k4 * 2 = j := by omega
  have ek : a + k4 * 3 = k := by omega
  have HCP0 := Lib.hid (show choosePivot ltU d a b = (let r : Nat × Nat := if l ≥ 8 then (if l ≥ 50 then (let ri := medianAdjacent ltU d i 0; let rj := medianAdjacent ltU d j ri.2; let rk := medianAdjacent ltU d k rj.2; median ltU d ri.1 rj.1 rk.1 rk.2) else median ltU d i j k 0) else (j, 0); (r.1, if r.2 = 0 then .increasing else if r.2 = 12 then .decreasing else .unknown)) by
    unfold choosePivot; simp only [el, e2, ei, ej, ek])
  have HEL := Lib.hid (show l = b - a by omega)
  have HE2 := Lib.hid (show k4 = l / 4 by omega)
  have bi : i < d.size := by omega
  have bj : j < d.size := by omega
  have bk : k < d.size := by omega
  have hd0 : DAt (w.alloc (.cells #[.int .i64 0] 3)) g d := h.below (trA (tr0 w) _)
  have hs0 : SwAt (w.alloc (.cells #[.int .i64 0] 3)) w.heap.size (0 : Nat) := blk_new w _
  have hb0 := trA (tr0 w) (.cells #[.int .i64 0] 3)
  have hgq : g ≠ w.heap.size := by have := h.lt; omega
  have HD := Lib.hid hd0
  have HS0 := Lib.hid hs0
  have HB0 := Lib.hid hb0
  clear el e2 ei ej ek h hd0 hs0 hb0
  by_cases h8 : 8 ≤ l
  · by_cases h50 : 50 ≤ l
    · have c1 : 1 ≤ i ∧ i + 1 < d.size ∧ 1 ≤ j ∧ j + 1 < d.size ∧ 1 ≤ k ∧ k + 1 < d.size := by have := HE2.out; have := HEL.out; omega
      obtain ⟨p1, s1, t1⟩ : ∃ x y, medianAdjacent ltU d i 0 = (x, y) := ⟨_, _, rfl⟩
      obtain ⟨p2, s2, t2⟩ : ∃ x y, medianAdjacent ltU d j s1 = (x, y) := ⟨_, _, rfl⟩
      obtain ⟨p3, s3, t3⟩ : ∃ x y, medianAdjacent ltU d k s2 = (x, y) := ⟨_, _, rfl⟩
      obtain ⟨P, S, t4⟩ : ∃ x y, median ltU d p1 p2 p3 s3 = (x, y) := ⟨_, _, rfl⟩
      have HCP := Lib.hid (show choosePivot ltU d a b = (P, if S = 0 then .increasing else if S = 12 then .decreasing else .unknown) by rw [HCP0.out]; simp only [if_pos h8, if_pos h50, t1, t2, t3, t4])
      have T1 := Lib.hid t1
      have T2 := Lib.hid t2
      have T3 := Lib.hid t3
      have T4 := Lib.hid t4
      clear t1 t2 t3 t4 HCP0
      go_enter Try.func79, Try.ntmps79
      go_wp2_with fail
      refine (sMedianAdj g n cap i 0 w.heap.size d _ HD.out HS0.out hgq c1.1 c1.2.1 hn hc hm (by omega)).mono ?_
      rw [T1.out]
      rintro e w1 ⟨rfl, g1, o1, l1, l2⟩
      simp only at g1 l1 l2
      have d1 := HD.out.off o1 hgq
      go_wp2_with fail
      refine (sMedianAdj g n cap j s1 w.heap.size d _ d1 g1 hgq c1.2.2.1 c1.2.2.2.1 hn hc hm (by omega)).mono ?_
      rw [T2.out]
      rintro e w2 ⟨rfl, g2, o2, l3, l4⟩
      simp only at g2 l3 l4
      have d2 := d1.off o2 hgq
      go_wp2_with fail
      refine (sMedianAdj g n cap k s2 w.heap.size d _ d2 g2 hgq c1.2.2.2.2.1 c1.2.2.2.2.2 hn hc hm (by omega)).mono ?_
      rw [T3.out]
      rintro e w3 ⟨rfl, g3, o3, l5, l6⟩
      simp only at g3 l5 l6
      have d3 := d2.off o3 hgq
      go_wp2_with fail
      refine (sMedian g n cap p1 p2 p3 s3 w.heap.size d _ d3 g3 hgq l1 l3 l5 hn hc hm (by omega)).mono ?_
      rw [T4.out]
      rintro e w4 ⟨rfl, g4, o4, l7, l8⟩
      simp only at g4 l7 l8
      have HS := Lib.hid g4
      have HB := Lib.hid (off_below' HB0.out (((o1.trans o2).trans o3).trans o4))
      clear g1 o1 d1 g2 o2 d2 g3 o3 d3 g4 o4
      have c0 := blk_cell HS.out 0
      simp only [List.getElem?_toArray, List.getElem?_cons_zero] at c0
      rcases (show S = 0 ∨ S = 12 ∨ (S ≠ 0 ∧ S ≠ 12) by omega) with rfl | rfl | ⟨n0, n12⟩
      · have HX := Lib.hid (show (choosePivot ltU d a b) = (P, .increasing) by rw [HCP.out]; rfl)
        go_wp2_with fail
        go_ret2
        exact ⟨by rw [HX.out]; rfl, HB.out⟩
      · have HX := Lib.hid (show (choosePivot ltU d a b) = (P, .decreasing) by rw [HCP.out]; rfl)
        go_wp2_with fail
        go_ret2
        exact ⟨by rw [HX.out]; rfl, HB.out⟩
      · have HX := Lib.hid (show (choosePivot ltU d a b) = (P, .unknown) by rw [HCP.out, if_neg n0, if_neg n12])
        have q0 : ((S : Int) == 0) = false := by simp; omega
        have q1 : ((S : Int) == 12) = false := by simp; omega
        go_wp2_with fail
        go_ret2
        exact ⟨by rw [HX.out]; rfl, HB.out⟩
    · obtain ⟨P, S, t4⟩ : ∃ x y, median ltU d i j k 0 = (x, y) := ⟨_, _, rfl⟩
      have HCP := Lib.hid (show choosePivot ltU d a b = (P, if S = 0 then .increasing else if S = 12 then .decreasing else .unknown) by rw [HCP0.out]; simp only [if_pos h8, if_neg h50, t4])
      have T4 := Lib.hid t4
      clear t4 HCP0
      go_enter Try.func79, Try.ntmps79
      go_wp2_with fail
      refine (sMedian g n cap i j k 0 w.heap.size d _ HD.out HS0.out hgq bi bj bk hn hc hm (by omega)).mono ?_
      rw [T4.out]
      rintro e w4 ⟨rfl, g4, o4, l7, l8⟩
      simp only at g4 l7 l8
      have HS := Lib.hid g4
      have HB := Lib.hid (off_below' HB0.out o4)
      clear g4 o4
      have c0 := blk_cell HS.out 0
      simp only [List.getElem?_toArray, List.getElem?_cons_zero] at c0
      rcases (show S = 0 ∨ S = 12 ∨ (S ≠ 0 ∧ S ≠ 12) by omega) with rfl | rfl | ⟨n0, n12⟩
      · have HX := Lib.hid (show (choosePivot ltU d a b) = (P, .increasing) by rw [HCP.out]; rfl)
        go_wp2_with fail
        go_ret2
        exact ⟨by rw [HX.out]; rfl, HB.out⟩
      · have HX := Lib.hid (show (choosePivot ltU d a b) = (P, .decreasing) by rw [HCP.out]; rfl)
        go_wp2_with fail
        go_ret2
        exact ⟨by rw [HX.out]; rfl, HB.out⟩
      · have HX := Lib.hid (show (choosePivot ltU d a b) = (P, .unknown) by rw [HCP.out, if_neg n0, if_neg n12])
        have q0 : ((S : Int) == 0) = false := by simp; omega
        have q1 : ((S : Int) == 12) = false := by simp; omega
        go_wp2_with fail
        go_ret2
        exact ⟨by rw [HX.out]; rfl, HB.out⟩
  · have HX := Lib.hid (show choosePivot ltU d a b = (j, .increasing) by rw [HCP0.out]; simp only [if_neg h8]; rfl)
    have c0 := blk_cell HS0.out 0
    simp only [List.getElem?_toArray, List.getElem?_cons_zero] at c0
    clear HCP0
    go_enter Try.func79, Try.ntmps79
    go_wp2_with fail
    go_ret2
    exact ⟨by rw [HX.out]; rfl, HB0.out⟩
end Go.Proofs.Ytafegmmcgghgaaa.B
