/- The law RegPlays: whatever a file is asked. -/
import Derived.Test.YtfhggmiaablcnaaL02K
import Derived.Test.YtfhggmiaablcnaaRKnown
import Derived.Deep.Cut
namespace Go.Proofs.Ytfhggmiaablcnaa.B
set_option linter.unusedVariables false
set_option linter.unusedSimpArgs false
open Go.ChangeShapes Go.WideShapes Go.RowKit Go.Sort Go.MapKept
/-- Acts as they come in. -/
def RActsIn (w : World) (y : Option Addr) (len cap : Nat) : Prop := len = 0 ∨ ∃ b off, y = some ⟨b, off, none⟩ ∧ len ≤ cap ∧ cap ≤ maxLen ∧ b < w.heap.size ∧ ∀ i, i < cap → ∃ (K o : Int) (r : Rg) (x z : Int),
  w.cell? ⟨b, off + i * 8, none⟩ = some (.int .i64 K) ∧ w.cell? ⟨b, off + i * 8 + 1, none⟩ = some (.int .u32 o) ∧ w.cell? ⟨b, off + i * 8 + 2, none⟩ = some (.int .u32 r.v) ∧ w.cell? ⟨b, off + i * 8 + 3, none⟩ = some (.int .u32 r.s) ∧ w.cell? ⟨b, off + i * 8 + 4, none⟩ = some (.int .u32 r.r) ∧ w.cell? ⟨b, off + i * 8 + 5, none⟩ = some (.int .u32 r.c) ∧ w.cell? ⟨b, off + i * 8 + 6, none⟩ = some (.int .u32 x) ∧ w.cell? ⟨b, off + i * 8 + 7, none⟩ = some (.int .u32 z) ∧
  (-9223372036854775808 ≤ K ∧ K < 9223372036854775808) ∧ (0 ≤ o ∧ o < 4294967296) ∧ r.wf ∧ (0 ≤ x ∧ x < 4294967296) ∧ (0 ≤ z ∧ z < 4294967296)
def actC (K o : Int) (r : Rg) (x z : Int) : Array Value := #[.int .i64 K, .int .u32 o, .int .u32 r.v, .int .u32 r.s, .int .u32 r.r, .int .u32 r.c, .int .u32 x, .int .u32 z]
set_option maxRecDepth 100000 in
set_option maxHeartbeats 12800000 in
theorem regPlays (hSort : SortSaid) (hNil : SortNil) (w : World) (y : Option Addr) (len cap : Nat) (hy : RActsIn w y len cap) :
    Calls Try.prog 3 #[.slice y len cap] w fun e w' => e = .returned (.bool true) ∧ Below w.heap.size w w' := by
  have HY := Lib.hid hy
  have HS := Lib.hid hSort
  have HN := Lib.hid hNil
  clear hy hSort hNil
  go_enter Try.func3, Try.ntmps3
  go_wp2_with fail
  refine (fNew w).mono ?_
  rintro e w1 ⟨rfl, F0, hb⟩
  have M0 : FrAt w1 w.heap.size (w.heap.size + 1) w.heap.size (.slice none 0 0) [] [] := ⟨F0, ownA_nil _ _, ⟨List.Pairwise.nil, by simp⟩, Nat.le_refl _, hb.size⟩
  clear F0
  go_wp2_with fail
  go_loopw [3, 4, 5] (fun l m i wr => ∃ (k fb mb : Nat) (V : Value) (L : List (Int × Rg)), k ≤ len ∧ k ≤ 60 ∧ i = .int .i64 k ∧ l = .pointer (some ⟨fb, 0, none⟩) ∧ m = V ∧ FrAt wr w.heap.size fb mb V L L ∧ L.length ≤ k ∧ Below w.heap.size w wr) (fun l m i wr => len - (intOf i).toNat)
  case atStart => exact ⟨0, _, _, _, [], by omega, by omega, rfl, rfl, rfl, M0, by simp, hb⟩
  case round =>
    clear M0 hb
    obtain ⟨k, fb, mb, V, L, hk, hkl, rfl, rfl, hV, M, hLk, hB⟩ := hrel
    subst hV
    by_cases hlt : k < len ∧ k < 60
    · obtain ⟨hlt, hlm⟩ := hlt
      rcases HY.out with hy | ⟨b, off, rfl, hlc, hcm, hbl, hz⟩
      · omega
      unfold maxLen at hcm
      obtain ⟨K, o, r, x, z, c0, c1, c2, c3, c4, c5, c6, c7, ⟨k0, k1⟩, ⟨o0, o1⟩, hr, ⟨x0, x1⟩, ⟨z0, z1⟩⟩ := hz k (by omega)
      rw [← hB.cell (p := ⟨b, _, none⟩) (by simpa using hbl)] at c0 c1 c2 c3 c4 c5 c6 c7
      clear hz
      have hsz := hB.size
      have hX := blk_new wr (.cells (actC K o r x z) 30 (0, 0))
      have hbA := trA (tr0 wr) (.cells (actC K o r x z) 30 (0, 0))
      have hwl := lt_of_block hX
      have hmw : mb < wr.heap.size := M.F.ltm
      have M1 := M.below hbA
      have B1 := tr hB hbA
      unfold actC at hX hbA hwl M1 B1
      clear M hB hbA
      go_upto_region 7 with (fail)
      generalize wr.alloc (.cells #[.int .i64 K, .int .u32 o, .int .u32 r.v, .int .u32 r.s, .int .u32 r.r, .int .u32 r.c, .int .u32 x, .int .u32 z] 30 (0, 0)) = W at *
      clear c0 c1 c2 c3 c4 c5 c6 c7
      have y0 := blk_cell hX 0
      have y1 := blk_cell hX 1
      have y2 := blk_cell hX 2
      have y3 := blk_cell hX 3
      have y4 := blk_cell hX 4
      have y5 := blk_cell hX 5
      have y6 := blk_cell hX 6
      have y7 := blk_cell hX 7
      simp only [List.getElem?_toArray, List.getElem?_cons_zero, List.getElem?_cons_succ] at y0 y1 y2 y3 y4 y5 y6 y7
      have hkind : K = 0 ∨ K = 1 ∨ K = 2 ∨ K = 3 ∨ K = 4 ∨ K = 5 ∨ ((K == 0) = false ∧ (K == 1) = false ∧ (K == 2) = false ∧ (K == 3) = false ∧ (K == 4) = false ∧ (K == 5) = false) := by simp; omega
      rcases hkind with rfl | rfl | rfl | rfl | rfl | rfl | ⟨q0, q1, q2, q3, q4, q5⟩
      · obtain ⟨E, L', hL', C1, C2⟩ := doDefine o r hr o0 o1 M1 (by omega)
        have HC1 := Lib.hid C1
        have HC2 := Lib.hid C2
        have zE : (E != E) = false := by simp
        clear C1 C2 M1
        go_wp2_with fail
        refine HC1.out.mono ?_
        rintro e w2 ⟨v', rfl, M2, hb2⟩
        have B2 := tr B1 hb2
        have hX2 := blk_below hb2 hX hwl
        clear y0 y1 y2 y3 y4 y5 y6 y7 hX B1 hb2
        have y0 := blk_cell hX2 0
        have y1 := blk_cell hX2 1
        have y2 := blk_cell hX2 2
        have y3 := blk_cell hX2 3
        have y4 := blk_cell hX2 4
        have y5 := blk_cell hX2 5
        have y6 := blk_cell hX2 6
        have y7 := blk_cell hX2 7
        simp only [List.getElem?_toArray, List.getElem?_cons_zero, List.getElem?_cons_succ] at y0 y1 y2 y3 y4 y5 y6 y7
        go_wp2_with fail
        refine (HC2.out _ _ M2).mono ?_
        rintro e w3 ⟨rfl, M3, ho⟩
        have B3 := Off.toBelow B2 ho (fun q hq e => by have := M2.hm; omega) (Nat.le_refl _)
        clear y0 y1 y2 y3 y4 y5 y6 y7 hX2 M2 B2 ho HC1 HC2
        go_wp2_with fail
        refine (rAlike HS.out HN.out M3.F M3.O M3.R (by omega)).mono ?_
        rintro e w9 ⟨rfl, hb9⟩
        have MZ := M3.below hb9
        have BZ := tr B3 hb9
        clear M3 B3 hb9
        go_wp2_with fail
        go_roundw
        case measure => simp [intOf]; omega
        case rel => exact ⟨k + 1, _, _, _, _, by omega, by omega, by go_num, rfl, rfl, MZ, by omega, BZ⟩
      · obtain ⟨X, E, C1, C2⟩ := doLoad o o0 o1 M1 (by omega)
        have HC1 := Lib.hid C1
        have HC2 := Lib.hid C2
        have zE : (E != E) = false := by simp
        have zX : (X != X) = false := by simp
        clear C1 C2
        go_wp2_with fail
        refine HC1.out.mono ?_
        rintro e w2 ⟨rfl, rfl⟩
        go_wp2_with fail
        refine HC2.out.mono ?_
        rintro e w3 ⟨rfl, hb3⟩
        have M3 := M1.below hb3
        have B3 := tr B1 hb3
        clear y0 y1 y2 y3 y4 y5 y6 y7 hX M1 B1 hb3 HC1 HC2
        go_wp2_with fail
        refine (rAlike HS.out HN.out M3.F M3.O M3.R (by omega)).mono ?_
        rintro e w9 ⟨rfl, hb9⟩
        have MZ := M3.below hb9
        have BZ := tr B3 hb9
        clear M3 B3 hb9
        go_wp2_with fail
        go_roundw
        case measure => simp [intOf]; omega
        case rel => exact ⟨k + 1, _, _, _, _, by omega, by omega, by go_num, rfl, rfl, MZ, by omega, BZ⟩
      · obtain ⟨E, L', hL', C1, C2⟩ := doWrite o x x0 x1 o0 o1 M1 (by omega)
        have HC1 := Lib.hid C1
        have HC2 := Lib.hid C2
        have zE : (E != E) = false := by simp
        clear C1 C2 M1
        go_wp2_with fail
        refine HC1.out.mono ?_
        rintro e w2 ⟨v', rfl, M2, hb2⟩
        have B2 := tr B1 hb2
        have hX2 := blk_below hb2 hX hwl
        clear y0 y1 y2 y3 y4 y5 y6 y7 hX B1 hb2
        have y0 := blk_cell hX2 0
        have y1 := blk_cell hX2 1
        have y2 := blk_cell hX2 2
        have y3 := blk_cell hX2 3
        have y4 := blk_cell hX2 4
        have y5 := blk_cell hX2 5
        have y6 := blk_cell hX2 6
        have y7 := blk_cell hX2 7
        simp only [List.getElem?_toArray, List.getElem?_cons_zero, List.getElem?_cons_succ] at y0 y1 y2 y3 y4 y5 y6 y7
        go_wp2_with fail
        refine (HC2.out _ _ M2).mono ?_
        rintro e w3 ⟨rfl, M3, ho⟩
        have B3 := Off.toBelow B2 ho (fun q hq e => by have := M2.hm; omega) (Nat.le_refl _)
        clear y0 y1 y2 y3 y4 y5 y6 y7 hX2 M2 B2 ho HC1 HC2
        go_wp2_with fail
        refine (rAlike HS.out HN.out M3.F M3.O M3.R (by omega)).mono ?_
        rintro e w9 ⟨rfl, hb9⟩
        have MZ := M3.below hb9
        have BZ := tr B3 hb9
        clear M3 B3 hb9
        go_wp2_with fail
        go_roundw
        case measure => simp [intOf]; omega
        case rel => exact ⟨k + 1, _, _, _, _, by omega, by omega, by go_num, rfl, rfl, MZ, by omega, BZ⟩
      · obtain ⟨E, L', hL', C1, C2⟩ := doTurn o x z x0 x1 z0 z1 o0 o1 M1 (by omega)
        have HC1 := Lib.hid C1
        have HC2 := Lib.hid C2
        have zE : (E != E) = false := by simp
        clear C1 C2 M1
        go_wp2_with fail
        refine HC1.out.mono ?_
        rintro e w2 ⟨v', rfl, M2, hb2⟩
        have B2 := tr B1 hb2
        have hX2 := blk_below hb2 hX hwl
        clear y0 y1 y2 y3 y4 y5 y6 y7 hX B1 hb2
        have y0 := blk_cell hX2 0
        have y1 := blk_cell hX2 1
        have y2 := blk_cell hX2 2
        have y3 := blk_cell hX2 3
        have y4 := blk_cell hX2 4
        have y5 := blk_cell hX2 5
        have y6 := blk_cell hX2 6
        have y7 := blk_cell hX2 7
        simp only [List.getElem?_toArray, List.getElem?_cons_zero, List.getElem?_cons_succ] at y0 y1 y2 y3 y4 y5 y6 y7
        go_wp2_with fail
        refine (HC2.out _ _ M2).mono ?_
        rintro e w3 ⟨rfl, M3, ho⟩
        have B3 := Off.toBelow B2 ho (fun q hq e => by have := M2.hm; omega) (Nat.le_refl _)
        clear y0 y1 y2 y3 y4 y5 y6 y7 hX2 M2 B2 ho HC1 HC2
        go_wp2_with fail
        refine (rAlike HS.out HN.out M3.F M3.O M3.R (by omega)).mono ?_
        rintro e w9 ⟨rfl, hb9⟩
        have MZ := M3.below hb9
        have BZ := tr B3 hb9
        clear M3 B3 hb9
        go_wp2_with fail
        go_roundw
        case measure => simp [intOf]; omega
        case rel => exact ⟨k + 1, _, _, _, _, by omega, by omega, by go_num, rfl, rfl, MZ, by omega, BZ⟩
      · have HC := Lib.hid (fAgain HS.out HN.out M1.F (by omega))
        go_wp2_with fail
        refine HC.out.mono ?_
        rintro e w2 ⟨rfl, F2, ho⟩
        have M2 := M1.step F2 ho
        have B2 := Off.toBelow B1 ho (fun q hq e => by have := M1.hm; omega) (Nat.le_refl _)
        clear y0 y1 y2 y3 y4 y5 y6 y7 hX M1 B1 ho F2 HC
        have HC := Lib.hid (aAll M2.O (by omega))
        go_wp2_with fail
        refine HC.out.mono ?_
        rintro e w3 ⟨v', rfl, O3, hb3⟩
        have M3 : FrAt w3 w.heap.size fb mb v' (L.map agA) (L.map agA) := ⟨M2.F.below hb3, O3.base (fun q hq => Nat.le_trans M2.hB (O3.block hq).1), M2.R.again, M2.hm, Nat.le_trans M2.hB hb3.size⟩
        have B3 := tr B2 hb3
        have hL' : (L.map agA).length = L.length := by simp
        clear M2 B2 hb3 O3 HC
        generalize L.map agA = L' at *
        go_wp2_with fail
        refine (rAlike HS.out HN.out M3.F M3.O M3.R (by omega)).mono ?_
        rintro e w9 ⟨rfl, hb9⟩
        have MZ := M3.below hb9
        have BZ := tr B3 hb9
        clear M3 B3 hb9
        go_wp2_with fail
        go_roundw
        case measure => simp [intOf]; omega
        case rel => exact ⟨k + 1, _, _, _, _, by omega, by omega, by go_num, rfl, rfl, MZ, by omega, BZ⟩
      · have HC := Lib.hid (fCopy M1.F)
        go_wp2_with fail
        refine HC.out.mono ?_
        rintro e w2 ⟨f', m', rfl, F2, hf', hm', hb2⟩
        have N2 : FrAt w2 w.heap.size f' m' _ L L := ⟨F2, M1.O.below hb2, M1.R, by have := M1.hm; have := M1.F.ltm; omega, Nat.le_trans M1.hB hb2.size⟩
        have hmb : mb < W.heap.size := M1.F.ltm
        have hap : ∀ b, _ = some b → b ≠ mb := fun b hb => own_apart M1.F M1.O hb
        have hBm := M1.hm
        have G2 := M1.F.below hb2
        have B2 := tr B1 hb2
        have hX2 := blk_below hb2 hX hwl
        have R2 := M1.R
        clear y0 y1 y2 y3 y4 y5 y6 y7 hX M1 B1 F2 HC
        have hs2 := hb2.size
        clear hb2
        go_wp2_with fail
        refine (rAlike HS.out HN.out N2.F N2.O N2.R (by omega)).mono ?_
        rintro e w3 ⟨rfl, hb3⟩
        have N3 := N2.below hb3
        have G3 := G2.below hb3
        have B3 := tr B2 hb3
        have hs3 := hb3.size
        have hX3 := blk_below hb3 hX2 (by omega)
        clear N2 G2 B2 hb3 hX2
        have y0 := blk_cell hX3 0
        have y1 := blk_cell hX3 1
        have y2 := blk_cell hX3 2
        have y3 := blk_cell hX3 3
        have y4 := blk_cell hX3 4
        have y5 := blk_cell hX3 5
        have y6 := blk_cell hX3 6
        have y7 := blk_cell hX3 7
        simp only [List.getElem?_toArray, List.getElem?_cons_zero, List.getElem?_cons_succ] at y0 y1 y2 y3 y4 y5 y6 y7
        obtain ⟨E1, L1, hL1, R3, C1⟩ := oneDefine o r hr o0 o1 G3 R2
        have HC := Lib.hid C1
        clear C1 R2 G3
        go_wp2_with fail
        refine HC.out.mono ?_
        rintro e w4 ⟨rfl, G4, ho⟩
        have N4 := N3.offm ho (by omega) (by omega) hap
        have B4 := Off.toBelow B3 ho (fun q hq e => by omega) (Nat.le_refl _)
        have hX4 := ho.at hX3 (by omega)
        have hs4 := ho.size
        clear y0 y1 y2 y3 y4 y5 y6 y7 hX3 N3 B3 ho HC
        have y0 := blk_cell hX4 0
        have y1 := blk_cell hX4 1
        have y2 := blk_cell hX4 2
        have y3 := blk_cell hX4 3
        have y4 := blk_cell hX4 4
        have y5 := blk_cell hX4 5
        have y6 := blk_cell hX4 6
        have y7 := blk_cell hX4 7
        simp only [List.getElem?_toArray, List.getElem?_cons_zero, List.getElem?_cons_succ] at y0 y1 y2 y3 y4 y5 y6 y7
        obtain ⟨E2, L2, hL2, R4, C2⟩ := oneTurn o x z x0 x1 z0 z1 o0 o1 G4 R3
        have HC := Lib.hid C2
        clear C2 R3 G4
        go_wp2_with fail
        refine HC.out.mono ?_
        rintro e w5 ⟨rfl, G5, ho⟩
        have N5 := N4.offm ho (by omega) (by omega) hap
        have B5 := Off.toBelow B4 ho (fun q hq e => by omega) (Nat.le_refl _)
        clear y0 y1 y2 y3 y4 y5 y6 y7 hX4 N4 B4 ho HC
        have HC := Lib.hid (fAgain HS.out HN.out G5 (by omega))
        clear G5
        go_wp2_with fail
        refine HC.out.mono ?_
        rintro e w6 ⟨rfl, G6, ho⟩
        have N6 := N5.offm ho (by omega) (by omega) hap
        have B6 := Off.toBelow B5 ho (fun q hq e => by omega) (Nat.le_refl _)
        clear N5 B5 ho HC G6 hap
        go_wp2_with fail
        refine (rAlike HS.out HN.out N6.F N6.O N6.R (by omega)).mono ?_
        rintro e w9 ⟨rfl, hb9⟩
        have MZ := N6.below hb9
        have BZ := tr B6 hb9
        clear N6 B6 hb9
        go_wp2_with fail
        go_roundw
        case measure => simp [intOf]; omega
        case rel => exact ⟨k + 1, _, _, _, _, by omega, by omega, by go_num, rfl, rfl, MZ, by omega, BZ⟩
      · clear y1 y2 y3 y4 y5 y6 y7 hX
        go_wp2_with fail
        refine (rAlike HS.out HN.out M1.F M1.O M1.R (by omega)).mono ?_
        rintro e w9 ⟨rfl, hb9⟩
        have MZ := M1.below hb9
        have BZ := tr B1 hb9
        clear M1 B1 hb9
        go_wp2_with fail
        go_roundw
        case measure => simp [intOf]; omega
        case rel => exact ⟨k + 1, _, _, _, _, by omega, by omega, by go_num, rfl, rfl, MZ, by omega, BZ⟩
    · clear M
      by_cases hlt2 : k < len
      all_goals
        go_wp2_with fail
        refine (known _).mono ?_
        rintro e w1 ⟨rfl, hb1⟩
        go_wp2_with fail
        go_ret
        exact ⟨rfl, tr hB hb1⟩
end Go.Proofs.Ytfhggmiaablcnaa.B
