/- slices.Sort at uint32: median, medianAdjacent, choosePivot. -/
import Derived.Test.YtafegmmcgghgaaaSrtM
namespace Go.Proofs.Ytafegmmcgghgaaa.B
set_option linter.unusedVariables false
set_option linter.unusedSimpArgs false
open Go.ChangeShapes Go.WideShapes Go.RowKit Go.Sort
theorem order2_ok {d : Array Int} {a b s N : Nat} (ha : a < N) (hb : b < N) : (order2 ltU d a b s).1 < N ∧ (order2 ltU d a b s).2.1 < N ∧ (order2 ltU d a b s).2.2 ≤ s + 1 := by
  unfold order2; split <;> simp <;> omega
theorem sOrder2' {g n cap a b s q x y s' : Nat} {d : Array Int} {w : World} (h : DAt w g d) (hs : SwAt w q s) (ha : a < d.size) (hb : b < d.size) (hn : d.size = n) (hc : n ≤ cap) (hm : cap ≤ 9223372036854775807) (hs2 : s < 1000) (he : order2 ltU d a b s = (x, y, s')) :
    Calls Try.prog 103 #[.slice (some ⟨g, 0, none⟩) n cap, .int .i64 a, .int .i64 b, .pointer (some ⟨q, 0, none⟩)] w
      fun e w' => e = .returned (.tuple #[.int .i64 x, .int .i64 y]) ∧ SwAt w' q s' ∧ Off (· = q) w w' := by
  have := sOrder2 g n cap a b s q d w h hs ha hb hn hc hm hs2
  rw [he] at this; exact this
theorem sMedian (g n cap a b c s q : Nat) (d : Array Int) (w : World) (h : DAt w g d) (hs : SwAt w q s) (hgq : g ≠ q) (ha : a < d.size) (hb : b < d.size) (hcc : c < d.size) (hn : d.size = n) (hc : n ≤ cap) (hm : cap ≤ 9223372036854775807) (hs2 : s < 900) :
    Calls Try.prog 99 #[.slice (some ⟨g, 0, none⟩) n cap, .int .i64 a, .int .i64 b, .int .i64 c, .pointer (some ⟨q, 0, none⟩)] w
      fun e w' => e = .returned (.int .i64 (median ltU d a b c s).1) ∧ SwAt w' q (median ltU d a b c s).2 ∧ Off (· = q) w w' ∧ (median ltU d a b c s).1 < d.size ∧ (median ltU d a b c s).2 ≤ s + 3 := by
  obtain ⟨x1, y1, s1, h1⟩ : ∃ x y t, order2 ltU d a b s = (x, y, t) := ⟨_, _, _, rfl⟩
  obtain ⟨x2, y2, s2, h2⟩ : ∃ x y t, order2 ltU d y1 c s1 = (x, y, t) := ⟨_, _, _, rfl⟩
  obtain ⟨x3, y3, s3, h3⟩ : ∃ x y t, order2 ltU d x1 x2 s2 = (x, y, t) := ⟨_, _, _, rfl⟩
  have hM : median ltU d a b c s = (y3, s3) := by unfold median; simp only [h1, h2, h3]
  have k1 := order2_ok (s := s) (d := d) ha hb
  rw [h1] at k1
  simp only at k1
  have k2 := order2_ok (s := s1) (d := d) k1.2.1 hcc
  rw [h2] at k2
  simp only at k2
  have k3 := order2_ok (s := s2) (d := d) k1.1 k2.1
  rw [h3] at k3
  simp only at k3
  rw [hM]
  have H1 := Lib.hid h1
  have H2 := Lib.hid h2
  have H3 := Lib.hid h3
  have K := Lib.hid (And.intro k1 (And.intro k2 k3))
  clear h1 h2 h3 hM k1 k2 k3
  go_enter Try.func99, Try.ntmps99
  go_wp2_with fail
  refine (sOrder2' h hs ha hb hn hc hm (by omega) H1.out).mono ?_
  rintro e w1 ⟨rfl, g1, o1⟩
  have d1 := h.off o1 hgq
  go_wp2_with fail
  refine (sOrder2' d1 g1 K.out.1.2.1 hcc hn hc hm (by have := K.out.1.2.2; omega) H2.out).mono ?_
  rintro e w2 ⟨rfl, g2, o2⟩
  have d2 := d1.off o2 hgq
  go_wp2_with fail
  refine (sOrder2' d2 g2 K.out.1.1 K.out.2.1.1 hn hc hm (by have := K.out.1.2.2; have := K.out.2.1.2.2; omega) H3.out).mono ?_
  rintro e w3 ⟨rfl, g3, o3⟩
  go_wp2_with fail
  go_ret
  exact ⟨rfl, g3, (o1.trans o2).trans o3, K.out.2.2.2.1, by have := K.out.1.2.2; have := K.out.2.1.2.2; have := K.out.2.2.2.2; show s3 ≤ s + 3; omega⟩
theorem sMedianAdj (g n cap a s q : Nat) (d : Array Int) (w : World) (h : DAt w g d) (hs : SwAt w q s) (hgq : g ≠ q) (ha0 : 1 ≤ a) (ha : a + 1 < d.size) (hn : d.size = n) (hc : n ≤ cap) (hm : cap ≤ 9223372036854775807) (hs2 : s < 900) :
    Calls Try.prog 98 #[.slice (some ⟨g, 0, none⟩) n cap, .int .i64 a, .pointer (some ⟨q, 0, none⟩)] w
      fun e w' => e = .returned (.int .i64 (medianAdjacent ltU d a s).1) ∧ SwAt w' q (medianAdjacent ltU d a s).2 ∧ Off (· = q) w w' ∧ (medianAdjacent ltU d a s).1 < d.size ∧ (medianAdjacent ltU d a s).2 ≤ s + 3 := by
  obtain ⟨z, e1⟩ : ∃ z : Nat, (a : Int) - 1 = (z : Int) := ⟨a - 1, by omega⟩
  obtain ⟨y, e2⟩ : ∃ y : Nat, (a : Int) + 1 = (y : Int) := ⟨a + 1, by omega⟩
  have hz : a - 1 = z := by omega
  have hy : a + 1 = y := by omega
  have hM := sMedian g n cap z a y s q d w h hs hgq (by omega) (by omega) (by omega) hn hc hm hs2
  unfold medianAdjacent
  rw [hz, hy]
  have HM := Lib.hid hM
  clear hM hz hy h hs
  go_enter Try.func98, Try.ntmps98
  go_wp2_with fail
  refine HM.out.mono ?_
  rintro e w1 ⟨rfl, g1, o1, l1, l2⟩
  go_wp2_with fail
  go_ret
  exact ⟨rfl, g1, o1, l1, l2⟩
end Go.Proofs.Ytafegmmcgghgaaa.B
