/- The law LinesEach: one line after another one, set and masked, is the output, just while both are. -/
import Derived.Test.YtbmdhbcmiljanaaL04
import Derived.Test.YtbmdhbcmiljanaaBPlain2
namespace Go.Proofs.Ytbmdhbcmiljanaa.B
set_option linter.unusedVariables false
set_option linter.unusedSimpArgs false
open Go.ChangeShapes Go.WideShapes Go.RowKit Go.Sort
theorem bit_pow (K i : Nat) : bit (2 ^ K) i = decide (i = K) := by
  have h : (2 : Int) ^ K = ((2 ^ K : Nat) : Int) := by push_cast; rfl
  rw [h, bit_testBit _ _ (Int.natCast_nonneg _), Int.toNat_natCast, Nat.testBit_two_pow]
  simp [eq_comm]
theorem pow_bounds (K : Nat) (h : K < 32) : (0 : Int) ≤ 2 ^ K ∧ (2 : Int) ^ K < 4294967296 := by
  have h1 : (2 : Int) ^ K = ((2 ^ K : Nat) : Int) := by push_cast; rfl
  have h2 : 2 ^ K < 4294967296 := Nat.pow_lt_pow_right (by omega) h
  rw [h1]
  exact ⟨Int.natCast_nonneg _, Int.ofNat_lt.2 h2⟩
theorem put_pow (K : Nat) (h : K < 32) : put 0 (K : Int) 1 (tk true) = 2 ^ K := by
  have b := pow_bounds K h
  have c := put_bounds 0 (K : Int) 1 (tk true) (by omega) (by omega)
  refine same_bits c.1 c.2 b.1 b.2 fun i hi => ?_
  rw [bit_put_one 0 K true h (by omega) i hi, bit_pow, bit_zero]
  by_cases e : i = K
  · rw [if_pos e, decide_eq_true e]
  · rw [if_neg e, decide_eq_false e]
theorem least_pow (K : Nat) (h : K < 32) : least (lm (2 ^ K) (2 ^ K)) = K := by
  refine least_some _ K (fun q hq => ?_) h ?_
  · unfold lm; rw [bit_pow, decide_eq_false (by omega)]; rfl
  · unfold lm; rw [bit_pow, decide_eq_true rfl]; rfl
theorem out_pow (K : Nat) (h : K < 32) : outB (2 ^ K) (2 ^ K) = true := by
  unfold outB; rw [least_pow K h, decide_eq_true (by omega)]
theorem out_low (m : Int) : outB 0 m = false := by
  unfold outB; rw [least_no _ fun i _ => by unfold lm; rw [bit_zero]; rfl]; rfl
theorem and_pow (K : Nat) (h : K < 32) : bits BinOp.and IntKind.u32 (2 ^ K) (2 ^ K) = 2 ^ K := by
  have b := pow_bounds K h
  have c := and_bounds _ _ b.1 b.2 b.1 b.2
  refine same_bits c.1 c.2 b.1 b.2 fun i hi => ?_
  rw [bit_and _ _ i b.1 b.2 b.1 b.2, Bool.and_self]
theorem val_pow (K : Nat) (h : K < 32) : lVal (2 ^ K) (2 ^ K) 8 = 2 ^ K := by
  have : lVal (2 ^ K) (2 ^ K) 8 = bits BinOp.and IntKind.u32 (2 ^ K) (2 ^ K) := rfl
  rw [this, and_pow K h]
theorem out_flip (K : Nat) (h : K < 32) : outB (2 ^ K) (flip (2 ^ K)) = false := by
  obtain ⟨p0, p1⟩ := pow_bounds K h
  unfold outB
  rw [least_no _ fun i hi => by unfold lm; rw [bit_flip _ i hi p0 p1, Bool.and_not_self]]
  rfl
theorem err_8 : lErr 8 = 0 := rfl
set_option maxRecDepth 100000 in
set_option maxHeartbeats 3200000 in
theorem linesEach (w : World) (b off len cap : Nat) (zs : Nat → Int) (hl : len ≤ cap) (hm : cap ≤ maxLen) (hb : b < w.heap.size) (hz : ∀ i, i < cap → w.cell? ⟨b, off + i, none⟩ = some (.int .i64 (zs i)) ∧ -9223372036854775808 ≤ zs i ∧ zs i < 9223372036854775808) :
    Calls Try.prog 4 #[.slice (some ⟨b, off, none⟩) len cap] w
      fun e w' => e = .returned (.bool true) ∧ Below w.heap.size w w' := by
  unfold maxLen at hm
  go_enter Try.func4, Try.ntmps4
  have HZ := Lib.hid hz
  clear hz
  go_wp2_with fail
  refine (lNew _).mono ?_
  rintro e w1 ⟨rfl, rfl⟩
  have A : LAt (w.alloc (.cells #[.int .u32 0, .int .u32 0] 55)) w.heap.size 0 0 := blk_new w _
  have hbw : Below w.heap.size w (w.alloc (.cells #[.int .u32 0, .int .u32 0] 55)) := trA (tr0 w) _
  generalize (w.alloc (.cells #[.int .u32 0, .int .u32 0] 55)) = W at *
  go_wp2_with fail
  go_loopw [4] (fun i wr => ∃ (k : Nat) (h m : Int), k ≤ len ∧ k ≤ 20 ∧ i = .int .i64 k ∧ LAt wr w.heap.size h m ∧ Below w.heap.size w wr) (fun i _ => 20 - (intOf i).toNat)
  case atStart => exact ⟨0, 0, 0, by omega, by omega, rfl, A, hbw⟩
  case round =>
    clear A hbw
    obtain ⟨k, h, m, hk, hk20, rfl, A, hbw⟩ := hrel
    by_cases hlt : k < len ∧ k < 20
    · obtain ⟨hlt, h20⟩ := hlt
      have hzk : wr.cell? ⟨b, off + k, none⟩ = some (.int .i64 (zs k)) := by
        rw [hbw.cell (by simpa using hb)]; exact (HZ.out k (by omega)).1
      have z0 := (HZ.out k (by omega)).2.1
      have z1 := (HZ.out k (by omega)).2.2
      obtain ⟨K, hK, hK2⟩ : ∃ K : Nat, wrap64 ((IntKind.u64.wrap (zs k)).tmod 32) = (K : Int) ∧ K < 32 := by
        have h0 : 0 ≤ IntKind.u64.wrap (zs k) ∧ IntKind.u64.wrap (zs k) < 18446744073709551616 := by
          have := bounds_u64 (wf_wrap .u64 (zs k))
          omega
        refine ⟨((IntKind.u64.wrap (zs k)) % 32).toNat, ?_, by omega⟩
        rw [Int.tmod_eq_emod_of_nonneg h0.1]
        unfold wrap64
        omega
      obtain ⟨X, hX, x0, x1, HO, HL, HV, HN, HP⟩ : ∃ X : Int, (2 : Int) ^ K % 4294967296 = X ∧ 0 ≤ X ∧ X < 4294967296 ∧ Hid (outB X X = true) ∧ Hid (least (lm X X) = K) ∧ Hid (lVal X X 8 = X) ∧ Hid (outB X (flip X) = false) ∧ Hid (put 0 (K : Int) 1 (tk true) = X) := by
        obtain ⟨p0, p1⟩ := pow_bounds K hK2
        exact ⟨2 ^ K, Int.emod_eq_of_lt p0 p1, p0, p1, Lib.hid (out_pow K hK2), Lib.hid (least_pow K hK2), Lib.hid (val_pow K hK2), Lib.hid (out_flip K hK2), Lib.hid (put_pow K hK2)⟩
      have hsg : IntKind.u32.signed = false := rfl
      have hz0 := self_eq X
      have hz1 : (X != X) = false := by simp
      have hz2 : ((K : Int) != K) = false := by simp
      go_wp2_with fail
      refine (lAll _ _ 0 _ _ A).mono ?_
      rintro e w1 ⟨rfl, rfl⟩
      have A1 := A.set0 0
      have hb1 := hbw.setCell (p := ⟨w.heap.size, 0, none⟩) (Nat.le_refl _) (.int .u32 0)
      clear A hbw hzk
      generalize wr.setCell ⟨w.heap.size, 0, none⟩ (.int .u32 0) = W1 at *
      go_wp2_with fail
      refine (lStore _ _ X _ _ A1).mono ?_
      rintro e w1 ⟨rfl, rfl⟩
      have A2 := A1.set1 X
      have hb2 := hb1.setCell (p := ⟨w.heap.size, 1, none⟩) (Nat.le_refl _) (.int .u32 X)
      clear A1 hb1
      generalize W1.setCell ⟨w.heap.size, 1, none⟩ (.int .u32 X) = W2 at *
      go_wp2_with fail
      refine (lOut _ _ _ _ A2 (by omega) (by omega) x0 x1).mono ?_
      rw [out_low]
      rintro e W3 ⟨rfl, hb⟩
      have A3 := A2.below hb
      have hb3 := tr hb2 hb
      clear A2 hb hb2
      go_wp2_with fail
      refine (lSet _ _ _ true _ _ A3 (by omega) (by omega) (by omega) (by omega)).mono ?_
      rw [HP.out]
      rintro e w1 ⟨rfl, rfl⟩
      have A4 := A3.set0 X
      have hb4 := hb3.setCell (p := ⟨w.heap.size, 0, none⟩) (Nat.le_refl _) (.int .u32 X)
      clear A3 hb3
      generalize W3.setCell ⟨w.heap.size, 0, none⟩ (.int .u32 X) = W4 at *
      go_wp2_with fail
      refine (lOut _ _ _ _ A4 x0 x1 x0 x1).mono ?_
      rw [HO.out]
      rintro e W5 ⟨rfl, hb⟩
      have A5 := A4.below hb
      have hb5 := tr hb4 hb
      clear A4 hb hb4
      go_wp2_with fail
      refine (lLeast _ _ _ _ A5 x0 x1 x0 x1).mono ?_
      rw [HL.out]
      rintro e W6 ⟨rfl, hb⟩
      have A6 := A5.below hb
      have hb6 := tr hb5 hb
      clear A5 hb hb5
      go_wp2_with fail
      refine (lLoad _ _ 8 _ _ A6 (by omega) (by omega)).mono ?_
      rw [HV.out, err_8]
      rintro e W7 ⟨rfl, hb⟩
      have A7 := A6.below hb
      have hb7 := tr hb6 hb
      clear A6 hb hb6
      go_wp2_with fail
      obtain ⟨N, hN, n0, n1, HN⟩ : ∃ N : Int, bits BinOp.xor IntKind.u32 IntKind.u32.max X = N ∧ 0 ≤ N ∧ N < 4294967296 ∧ Hid (outB X N = false) := by
        obtain ⟨q0, q1⟩ := flip_bounds X x0 x1
        exact ⟨flip X, rfl, q0, q1, Lib.hid HN.out⟩
      rw [hN]
      refine (lStore _ _ N _ _ A7).mono ?_
      rintro e w1 ⟨rfl, rfl⟩
      have A8 := A7.set1 N
      have hb8 := hb7.setCell (p := ⟨w.heap.size, 1, none⟩) (Nat.le_refl _) (.int .u32 N)
      clear A7 hb7
      generalize W7.setCell ⟨w.heap.size, 1, none⟩ (.int .u32 N) = W8 at *
      go_wp2_with fail
      refine (lOut _ _ _ _ A8 x0 x1 n0 n1).mono ?_
      rw [HN.out]
      rintro e W9 ⟨rfl, hb⟩
      have A9 := A8.below hb
      have hb9 := tr hb8 hb
      clear A8 hb hb8
      go_wp2_with fail
      go_roundw
      case rel => exact ⟨k + 1, X, N, by omega, by omega, by go_num, A9, hb9⟩
      case measure => simp [intOf]; omega
    · clear A
      by_cases hlt2 : k < len
      all_goals
        go_wp2_with fail
        refine (lKnown _).mono ?_
        rintro e w1 ⟨rfl, hb1⟩
        go_wp2_with fail
        go_ret
        exact ⟨rfl, tr hbw hb1⟩
theorem linesEach0 (w : World) (y : Option Addr) (cap : Nat) :
    Calls Try.prog 4 #[.slice y 0 cap] w fun e w' => e = .returned (.bool true) ∧ Below w.heap.size w w' := by
  go_enter Try.func4, Try.ntmps4
  go_wp2_with fail
  refine (lNew _).mono ?_
  rintro e w1 ⟨rfl, rfl⟩
  go_wp2_with fail
  refine wp_loop_rounds 1 ?_
  rw [rounds_succ]
  go_wp2_with fail
  refine (lKnown _).mono ?_
  rintro e w1 ⟨rfl, hb1⟩
  go_wp2_with fail
  go_ret
  exact ⟨rfl, tr (trA (tr0 w) _) hb1⟩
theorem wLinesEach (v0 : Value) (w : World) (h0 : FitsV w (.slice (.int .i64)) v0) :
    Calls Try.prog 4 #[v0] w fun e w' => e = .returned (.bool true) ∧ Below w.heap.size w w' := by
  obtain ⟨y, len, cap, rfl, rfl | ⟨b, off, zs, rfl, hl, hm, hb, hz⟩⟩ := fits_ints h0
  · exact linesEach0 w y cap
  · exact linesEach w b off len cap zs hl hm hb fun i hi => by
      obtain ⟨g1, g2⟩ := hz i hi
      have := bounds_i64 g2
      exact ⟨g1, by omega, by omega⟩
end Go.Proofs.Ytbmdhbcmiljanaa.B
