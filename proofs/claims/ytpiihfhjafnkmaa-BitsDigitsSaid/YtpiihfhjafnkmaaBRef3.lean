/- The document's own answers of layer 1: Field, Put. -/
import Derived.Test.YtpiihfhjafnkmaaBRef
import Derived.Test.YtpiihfhjafnkmaaBField
namespace Go.Proofs.Ytpiihfhjafnkmaa.B
set_option linter.unusedVariables false
set_option linter.unusedSimpArgs false
open Go.ChangeShapes Go.WideShapes Go.RowKit
theorem bit_testBit (n : Int) (i : Nat) (h0 : 0 ≤ n) : bit n i = n.toNat.testBit i := by
  obtain ⟨m, rfl⟩ := Int.eq_ofNat_of_zero_le h0
  rw [Int.toNat_natCast, Nat.testBit_eq_decide_div_mod_eq]
  unfold bit
  have : ((m : Int) / 2 ^ i % 2 = 1) ↔ (m / 2 ^ i % 2 = 1) := by
    rw [← cast_two_pow]; omega
  simp only [this]
/-- The unit of a round: 2 to it, in words of 32 bits. -/
def un (k : Nat) : Int := 2 ^ k % 4294967296
theorem un_low (k : Nat) (h : k < 32) : un k = 2 ^ k ∧ 1 ≤ un k ∧ un k ≤ 2147483648 := by
  have p : (0 : Int) < 2 ^ k := Int.pow_pos (by decide)
  have q := two_pow_le (show k ≤ 31 by omega)
  have e : (2 : Int) ^ 31 = 2147483648 := by decide
  unfold un; omega
theorem un_succ (k : Nat) : IntKind.u32.wrap (2 * un k) = un (k + 1) := by
  rw [IntKind.wrap_u32']; unfold un; rw [Int.pow_succ]; omega
def fv (n low : Int) (k : Nat) : Int := ((n.toNat / 2 ^ low.toNat % 2 ^ k : Nat) : Int)
theorem fv_bounds (n low : Int) (k : Nat) (h : k < 32) : 0 ≤ fv n low k ∧ fv n low k + un k ≤ 4294967295 := by
  have := un_low k h
  have h2 : n.toNat / 2 ^ low.toNat % 2 ^ k < 2 ^ k := Nat.mod_lt _ (Nat.two_pow_pos k)
  have h3 := cast_two_pow k
  unfold fv; omega
theorem fv_succ (n low : Int) (k : Nat) (h0 : 0 ≤ n) (l0 : 0 ≤ low) (h : k < 32) : fv n low (k + 1) = fv n low k + if bit n (low.toNat + k) = true then un k else 0 := by
  have e := bit_testBit n (low.toNat + k) h0
  rw [Nat.testBit_eq_decide_div_mod_eq, Nat.pow_add, ← Nat.div_div_eq_div_mul] at e
  have q := (un_low k h).1
  have c := cast_two_pow k
  have m : n.toNat / 2 ^ low.toNat % 2 ^ (k + 1) = n.toNat / 2 ^ low.toNat % 2 ^ k + 2 ^ k * (n.toNat / 2 ^ low.toNat / 2 ^ k % 2) := Nat.mod_pow_succ
  unfold fv
  rw [m, e]
  by_cases h1 : n.toNat / 2 ^ low.toNat / 2 ^ k % 2 = 1
  · rw [h1, if_pos (by simp)]; omega
  · rw [show n.toNat / 2 ^ low.toNat / 2 ^ k % 2 = 0 by omega, if_neg (by simp)]; omega
theorem field_no (n low width : Int) (h : inw low width = false) : field n low width = 0 := by unfold field; rw [h]; rfl
theorem fv_end (n low width : Int) (k : Nat) (h0 : 0 ≤ n) (h1 : n < 4294967296) (hb : inw low width = true) (hw : (k : Int) ≤ width) (hk : low + k ≤ 32) (he : width ≤ k ∨ 32 ≤ low + k) : fv n low k = field n low width := by
  obtain ⟨l0, l1, _⟩ := inw_low hb
  unfold fv field
  rw [if_pos hb]
  congr 1
  by_cases c : width ≤ k
  · rw [show min width.toNat 32 = k by omega]
  · have hlt : n.toNat / 2 ^ low.toNat < 2 ^ k := by
      rw [Nat.div_lt_iff_lt_mul (Nat.two_pow_pos _), ← Nat.pow_add, show k + low.toNat = 32 by omega]
      have : (2 : Nat) ^ 32 = 4294967296 := by decide
      omega
    have hlt2 : n.toNat / 2 ^ low.toNat < 2 ^ min width.toNat 32 := Nat.lt_of_lt_of_le hlt (Nat.pow_le_pow_right (by decide) (by omega))
    rw [Nat.mod_eq_of_lt hlt, Nat.mod_eq_of_lt hlt2]
theorem rField (n low width : Int) (w : World) (h0 : 0 ≤ n) (h1 : n < 4294967296) (l0 : -9223372036854775808 ≤ low) (l1 : low < 9223372036854775808) (w0 : -9223372036854775808 ≤ width) (w1 : width < 9223372036854775808) :
    Calls Try.prog 32 #[.int .u32 n, .int .i64 low, .int .i64 width] w fun e w' => e = .returned (.int .u32 (field n low width)) ∧ w = w' := by
  by_cases a : low < 0
  · have hf := Lib.hid (field_no n low width (by unfold inw; simp; omega))
    go_enter Try.func32, Try.ntmps32
    go_wp2_with fail
    refine wp_loop_rounds 1 ?_; rw [rounds_succ]
    go_wp2_with fail
    go_ret
    exact ⟨ret_int hf.out.symm, rfl⟩
  by_cases b : 32 ≤ low
  · have hf := Lib.hid (field_no n low width (by unfold inw; simp; omega))
    go_enter Try.func32, Try.ntmps32
    go_wp2_with fail
    refine wp_loop_rounds 1 ?_; rw [rounds_succ]
    go_wp2_with fail
    go_ret
    exact ⟨ret_int hf.out.symm, rfl⟩
  by_cases c : width < 1
  · have hf := Lib.hid (field_no n low width (by unfold inw; simp; omega))
    go_enter Try.func32, Try.ntmps32
    go_wp2_with fail
    refine wp_loop_rounds 1 ?_; rw [rounds_succ]
    go_wp2_with fail
    go_ret
    exact ⟨ret_int hf.out.symm, rfl⟩
  have hb := Lib.hid (show inw low width = true by unfold inw; simp; omega)
  go_enter Try.func32, Try.ntmps32
  go_wp2_with fail
  go_loop [7, 8, 9] (fun v u i => ∃ k : Nat, (k : Int) ≤ width ∧ low + k ≤ 32 ∧ i = .int .i64 (low + k) ∧ v = .int .u32 (fv n low k) ∧ u = .int .u32 (un k)) (fun _ _ i => 32 - (intOf i).toNat)
  case atStart => exact ⟨0, by omega, by omega, by simp, by simp [fv, Nat.mod_one], by simp [un]⟩
  case round =>
    obtain ⟨k, hw, hk, rfl, rfl, rfl⟩ := hrel
    by_cases k1 : low + k < 32
    · by_cases k2 : (k : Int) < width
      · have q1 := fv_bounds n low k (by omega)
        have q2 := un_low k (by omega)
        have hs := Lib.hid (fv_succ n low k h0 (by omega) (by omega))
        have q3 := q2.2.1
        have q4 := q2.2.2
        have q5 := q1.1
        have q6 := q1.2
        clear q1 q2
        have et : (low + (k : Int)).toNat = low.toNat + k := by omega
        cases hbit : bit n (low.toNat + k)
        all_goals
          have hS := Lib.hid (hs.out.trans (by rw [hbit]))
          clear hs
          go_wp2_with (go_at_call 38; refine (Bit n (low + k) _ (by omega) (by omega) (by omega) (by omega)).mono ?_; rintro e w' ⟨rfl, rfl⟩; rw [et, hbit])
          go_round
          case rel =>
            refine ⟨k + 1, by omega, by omega, ?_, ?_, ?_⟩
            · rw [show low + (k : Int) + 1 = low + ((k + 1 : Nat) : Int) by omega]
            · rw [hS.out]; first | rfl | simp
            · first | rw [un_succ] | rw [← un_succ, IntKind.wrap_u32']
          case measure => simp [intOf]; omega
      · go_wp2_with fail
        go_ret
        exact ⟨ret_int (fv_end n low width k h0 h1 hb.out hw hk (by omega)), rfl⟩
    · go_wp2_with fail
      go_ret
      exact ⟨ret_int (fv_end n low width k h0 h1 hb.out hw hk (by omega)), rfl⟩
theorem ofBits_succ (f : Nat → Bool) (k : Nat) (h : k < 32) : ((ofBits f (k + 1) : Nat) : Int) = (ofBits f k : Nat) + if f k = true then un k else 0 := by
  rw [ofBits, (un_low k h).1, ← cast_two_pow]; split <;> simp
theorem ofBits_bounds (f : Nat → Bool) (k : Nat) (h : k < 32) : ((ofBits f k : Nat) : Int) + un k ≤ 4294967295 := by
  have := un_low k h
  have h2 := ofBits_lt f k
  have h3 := cast_two_pow k
  omega
theorem put_no (n low width v : Int) (h : inw low width = false) : put n low width v = n := by unfold put; rw [h]; rfl
/-- The number after so many rounds. -/
def pv (n low width v : Int) (k : Nat) : Int := ((ofBits (putBit n low width v) k : Nat) : Int)
theorem pv_bounds (n low width v : Int) (k : Nat) (h : k < 32) : 0 ≤ pv n low width v k ∧ pv n low width v k + un k ≤ 4294967295 := ⟨by unfold pv; omega, ofBits_bounds _ k h⟩
theorem pv_yes (n low width v : Int) (k : Nat) (h : k < 32) (hb : putBit n low width v k = true) : pv n low width v (k + 1) = pv n low width v k + un k := by
  unfold pv; rw [ofBits_succ _ k h, if_pos hb]
theorem pv_not (n low width v : Int) (k : Nat) (h : k < 32) (hb : putBit n low width v k = false) : pv n low width v (k + 1) = pv n low width v k := by
  unfold pv; rw [ofBits_succ _ k h, if_neg (by rw [hb]; decide)]; simp
theorem putBit_in (n low width v : Int) (k : Nat) (v0 : 0 ≤ v) (l0 : 0 ≤ low) (h1 : low ≤ k) (h2 : (k : Int) - low < width) : putBit n low width v k = bit v ((k : Int) - low).toNat := by
  unfold putBit; rw [if_pos ⟨by omega, by omega⟩, bit_testBit v _ v0, show ((k : Int) - low).toNat = k - low.toNat by omega]
theorem putBit_out (n low width v : Int) (k : Nat) (n0 : 0 ≤ n) (l0 : 0 ≤ low) (h : (k : Int) < low ∨ width ≤ (k : Int) - low) : putBit n low width v k = bit n k := by
  unfold putBit; rw [if_neg (by omega), bit_testBit n _ n0]
theorem rPut (n low width v : Int) (w : World) (h0 : 0 ≤ n) (h1 : n < 4294967296) (l0 : -9223372036854775808 ≤ low) (l1 : low < 9223372036854775808) (w0 : -9223372036854775808 ≤ width) (w1 : width < 9223372036854775808) (v0 : 0 ≤ v) (v1 : v < 4294967296) :
    Calls Try.prog 33 #[.int .u32 n, .int .i64 low, .int .i64 width, .int .u32 v] w fun e w' => e = .returned (.int .u32 (put n low width v)) ∧ w = w' := by
  by_cases a : low < 0
  · have hf := Lib.hid (put_no n low width v (by unfold inw; simp; omega))
    go_enter Try.func33, Try.ntmps33
    go_wp2_with fail
    go_ret
    exact ⟨ret_int hf.out.symm, rfl⟩
  by_cases b : 31 < low
  · have hf := Lib.hid (put_no n low width v (by unfold inw; simp; omega))
    go_enter Try.func33, Try.ntmps33
    go_wp2_with fail
    go_ret
    exact ⟨ret_int hf.out.symm, rfl⟩
  by_cases c : width < 1
  · have hf := Lib.hid (put_no n low width v (by unfold inw; simp; omega))
    go_enter Try.func33, Try.ntmps33
    go_wp2_with fail
    go_ret
    exact ⟨ret_int hf.out.symm, rfl⟩
  have hb := Lib.hid (show inw low width = true by unfold inw; simp; omega)
  go_enter Try.func33, Try.ntmps33
  go_wp2_with fail
  go_loop [9, 10, 11, 12] (fun o u i s => ∃ k : Nat, k ≤ 32 ∧ i = .int .i64 k ∧ o = .int .u32 (pv n low width v k) ∧ u = .int .u32 (un k)) (fun _ _ i _ => 32 - (intOf i).toNat)
  case atStart => exact ⟨0, by omega, rfl, by simp [pv, ofBits], by simp [un]⟩
  case round =>
    obtain ⟨k, hk, rfl, rfl, rfl⟩ := hrel
    by_cases k1 : k < 32
    · have q1 := pv_bounds n low width v k k1
      have q2 := un_low k k1
      have hy := Lib.hid (pv_yes n low width v k k1)
      have hn := Lib.hid (pv_not n low width v k k1)
      have hin := Lib.hid (putBit_in n low width v k v0 (by omega))
      have hout := Lib.hid (putBit_out n low width v k h0 (by omega))
      have q3 := q2.2.1
      have q4 := q2.2.2
      have q5 := q1.1
      have q6 := q1.2
      clear q1 q2
      have m1 : (k : Int).toNat = k := Int.toNat_natCast k
      by_cases i1 : low ≤ k
      · by_cases i2 : (k : Int) - low < width
        · have hin2 := Lib.hid (hin.out i1 i2)
          clear hin hout
          go_wp2_with fail
          refine (Bit n k _ (by omega) (by omega) (by omega) (by omega)).mono ?_
          rintro e w' ⟨rfl, rfl⟩
          go_wp2_with fail
          cases hv : bit v ((k : Int) - low).toNat
          all_goals
            have hS := Lib.hid (by first | exact hy.out (hin2.out.trans hv) | exact hn.out (hin2.out.trans hv))
            clear hy hn hin2
            refine (Bit v (k - low) _ (by omega) (by omega) (by omega) (by omega)).mono ?_
            rintro e w' ⟨rfl, rfl⟩
            rw [hv]
            go_wp2_with fail
            go_round
            case rel => exact ⟨k + 1, by omega, by go_num, by rw [hS.out], by first | rw [un_succ] | rw [← un_succ, IntKind.wrap_u32']⟩
            case measure => simp [intOf]; omega
        · have hout2 := Lib.hid (hout.out (by omega))
          clear hin hout
          go_wp2_with fail
          cases hv : bit n k
          all_goals
            have hS := Lib.hid (by first | exact hy.out (hout2.out.trans hv) | exact hn.out (hout2.out.trans hv))
            clear hy hn hout2
            refine (Bit n k _ (by omega) (by omega) (by omega) (by omega)).mono ?_
            rintro e w' ⟨rfl, rfl⟩
            rw [m1, hv]
            go_wp2_with fail
            go_round
            case rel => exact ⟨k + 1, by omega, by go_num, by rw [hS.out], by first | rw [un_succ] | rw [← un_succ, IntKind.wrap_u32']⟩
            case measure => simp [intOf]; omega
      · have hout2 := Lib.hid (hout.out (by omega))
        clear hin hout
        go_wp2_with fail
        cases hv : bit n k
        all_goals
          have hS := Lib.hid (by first | exact hy.out (hout2.out.trans hv) | exact hn.out (hout2.out.trans hv))
          clear hy hn hout2
          refine (Bit n k _ (by omega) (by omega) (by omega) (by omega)).mono ?_
          rintro e w' ⟨rfl, rfl⟩
          rw [m1, hv]
          go_wp2_with fail
          go_round
          case rel => exact ⟨k + 1, by omega, by go_num, by rw [hS.out], by first | rw [un_succ] | rw [← un_succ, IntKind.wrap_u32']⟩
          case measure => simp [intOf]; omega
    · go_wp2_with fail
      go_ret
      refine ⟨ret_int ?_, rfl⟩
      rw [show k = 32 by omega]; unfold put pv; rw [if_pos hb.out]
end Go.Proofs.Ytpiihfhjafnkmaa.B
