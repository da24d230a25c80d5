/- What the document's own answers of layer 1 return: the same plain numbers. -/
import Derived.Test.YtpiihfhjafnkmaaBCode
import Derived.Deep.QuietTactic
import Derived.BigQuiet
namespace Go.Proofs.Ytpiihfhjafnkmaa.B
set_option linter.unusedVariables false
set_option linter.unusedSimpArgs false
open Go.ChangeShapes Go.WideShapes Go.RowKit
theorem rLo (a : Int) (w : World) (h0 : 0 ≤ a) (h1 : a < 18446744073709551616) :
    Calls Try.prog 10 #[.int .u64 a] w fun e w' => e = .returned (.int .u32 (lo a)) ∧ w = w' := by
  go_enter Try.func10, Try.ntmps10
  go_wp2
  go_ret
  exact ⟨rfl, rfl⟩
theorem rHi (a : Int) (w : World) (h0 : 0 ≤ a) (h1 : a < 18446744073709551616) :
    Calls Try.prog 11 #[.int .u64 a] w fun e w' => e = .returned (.int .u32 (hi a)) ∧ w = w' := by
  go_enter Try.func11, Try.ntmps11
  go_wp2
  go_ret
  exact ⟨rfl, rfl⟩
theorem rJoin (h l : Int) (w : World) (h0 : 0 ≤ h) (h1 : h < 4294967296) (l0 : 0 ≤ l) (l1 : l < 4294967296) :
    Calls Try.prog 13 #[.int .u32 h, .int .u32 l] w fun e w' => e = .returned (.int .u64 (join h l)) ∧ w = w' := by
  go_enter Try.func13, Try.ntmps13
  go_wp2
  go_ret
  exact ⟨rfl, rfl⟩
theorem rAdd (a b : Int) (w : World) (h0 : 0 ≤ a) (h1 : a < 18446744073709551616) (l0 : 0 ≤ b) (l1 : b < 18446744073709551616) :
    Calls Try.prog 15 #[.int .u64 a, .int .u64 b] w fun e w' => e = .returned (.int .u64 (addS a b)) ∧ w = w' := by
  go_enter Try.func15, Try.ntmps15
  go_wp2
  all_goals (go_ret; exact ⟨ret_int (by unfold addS; first | rw [if_pos (by assumption)] | rw [if_neg (by omega)]), rfl⟩)
theorem rSub (a b : Int) (w : World) (h0 : 0 ≤ a) (h1 : a < 18446744073709551616) (l0 : 0 ≤ b) (l1 : b < 18446744073709551616) :
    Calls Try.prog 17 #[.int .u64 a, .int .u64 b] w fun e w' => e = .returned (.int .u64 (subS a b)) ∧ w = w' := by
  go_enter Try.func17, Try.ntmps17
  go_wp2
  all_goals (go_ret; exact ⟨ret_int (by unfold subS; first | rw [if_pos (by omega)] | rw [if_neg (by omega)]), rfl⟩)
theorem rSigned (n : Int) (w : World) (h0 : 0 ≤ n) (h1 : n < 4294967296) :
    Calls Try.prog 21 #[.int .u32 n] w fun e w' => e = .returned (.int .i64 (signed n)) ∧ w = w' := by
  go_enter Try.func21, Try.ntmps21
  go_wp2
  all_goals (go_ret; exact ⟨ret_int (by unfold signed; first | rw [if_pos (by omega)] | rw [if_neg (by omega)]), rfl⟩)
theorem Power (l : Int) (w : World) (h0 : 0 ≤ l) (h1 : l ≤ 8) :
    Calls Try.prog 34 #[.int .i64 l] w fun e w' => e = .returned (.int .u64 (pw l.toNat)) ∧ w = w' := by
  obtain ⟨n, rfl⟩ := Int.eq_ofNat_of_zero_le h0
  rw [Int.toNat_natCast]
  go_enter Try.func34, Try.ntmps34
  go_wp2
  go_loop [3, 4] (fun m i => ∃ k : Nat, k ≤ n ∧ i = .int .i64 k ∧ m = .int .u64 (pw k)) (fun _ i => n - (intOf i).toNat)
  case atStart => exact ⟨0, by omega, rfl, rfl⟩
  case round =>
    obtain ⟨k, hk, rfl, rfl⟩ := hrel
    have p1 := pw_pos k
    have p2 := pw_le (show k ≤ 8 by omega)
    by_cases hlt : k < n
    · go_wp2
      go_round
      case rel => exact ⟨k + 1, by omega, by go_num, by rw [pw_succ]⟩
      case measure => simp [intOf]; omega
    · go_wp2
      go_ret
      exact ⟨ret_int (by rw [show k = n by omega]), rfl⟩
def hv (n : Int) (k : Nat) : Int := n / 2 ^ k
theorem hv_nonneg {n : Int} (h : 0 ≤ n) (k : Nat) : 0 ≤ hv n k := div_pow_nonneg n k h
theorem hv_le {n : Int} (h : 0 ≤ n) (k : Nat) : hv n k ≤ n := Int.ediv_le_self _ h
theorem hv_succ (n : Int) (k : Nat) : hv n (k + 1) = hv n k / 2 := by
  unfold hv; rw [Int.pow_succ, Int.ediv_ediv_of_nonneg (Int.le_of_lt (Int.pow_pos (by decide)))]
theorem Bit (n i : Int) (w : World) (h0 : 0 ≤ n) (h1 : n < 18446744073709551616) (i0 : 0 ≤ i) (i1 : i < 64) :
    Calls Try.prog 38 #[.int .u64 n, .int .i64 i] w fun e w' => e = .returned (.bool (bit n i.toNat)) ∧ w = w' := by
  obtain ⟨m, rfl⟩ := Int.eq_ofNat_of_zero_le i0
  rw [Int.toNat_natCast]
  go_enter Try.func38, Try.ntmps38
  go_wp2
  go_loop [0, 5] (fun v i => ∃ k : Nat, k ≤ m ∧ i = .int .i64 k ∧ v = .int .u64 (hv n k)) (fun _ i => m - (intOf i).toNat)
  case atStart => exact ⟨0, by omega, rfl, by simp [hv]⟩
  case round =>
    obtain ⟨k, hk, rfl, rfl⟩ := hrel
    have p1 := hv_nonneg h0 k
    have p2 := hv_le h0 k
    by_cases hlt : k < m
    · go_wp2
      go_round
      case rel => exact ⟨k + 1, by omega, by go_num, by rw [hv_succ]⟩
      case measure => simp [intOf]; omega
    · go_wp2
      go_ret
      exact ⟨ret_bool (by rw [show k = m by omega]; rfl), rfl⟩
theorem mask_nat (k : Nat) (h : k ≤ 64) : mask k = 2 ^ k - 1 := by
  unfold mask; rw [if_neg (by omega)]
  split
  · obtain rfl : k = 64 := by omega
    decide
  · rw [Int.toNat_natCast]
theorem mask_succ (k : Nat) (h : k < 64) : mask ((k + 1 : Nat) : Int) = 2 * mask k + 1 := by
  rw [mask_nat _ (by omega), mask_nat _ (by omega), Int.pow_succ]; omega
theorem mask_low (k : Nat) (h : k < 64) : mask k ≤ 9223372036854775807 := by
  rw [mask_nat _ (by omega)]
  have h := two_pow_le (show k ≤ 63 by omega); have : (2 : Int) ^ 63 = 9223372036854775808 := by decide
  omega
theorem mask_end (n : Int) (k : Nat) (hk : (k : Int) ≤ n ∨ k = 0) (h : n ≤ k ∨ k = 64) (h6 : k ≤ 64) : mask k = mask n := by
  rcases h with h | h
  · rcases hk with hk | hk
    · rw [show n = k by omega]
    · subst hk; unfold mask
      by_cases e : n = 0
      · subst e; rfl
      · rw [if_neg (by omega), if_neg (by omega), if_pos (by omega)]; rfl
  · subst h; unfold mask
    rw [if_neg (by omega), if_pos (by omega), if_neg (by omega), if_pos (by omega)]
theorem rMask (n : Int) (w : World) (h0 : -9223372036854775808 ≤ n) (h1 : n < 9223372036854775808) :
    Calls Try.prog 19 #[.int .i64 n] w fun e w' => e = .returned (.int .u64 (mask n)) ∧ w = w' := by
  go_enter Try.func19, Try.ntmps19
  go_wp2
  go_loop [3, 4] (fun v i => ∃ k : Nat, k ≤ 64 ∧ ((k : Int) ≤ n ∨ k = 0) ∧ i = .int .i64 k ∧ v = .int .u64 (mask k)) (fun _ i => 64 - (intOf i).toNat)
  case atStart => exact ⟨0, by omega, by omega, rfl, rfl⟩
  case round =>
    obtain ⟨k, hk, hk2, rfl, rfl⟩ := hrel
    have p1 := mask_nonneg k
    by_cases hlt : (k : Int) < n
    · by_cases hlt2 : k < 64
      · have p2 := mask_low k hlt2
        go_wp2
        go_round
        case rel => exact ⟨k + 1, by omega, by omega, by go_num, by rw [mask_succ k hlt2]⟩
        case measure => simp [intOf]; omega
      · go_wp2
        go_ret
        exact ⟨ret_int (mask_end n k (by omega) (by omega) hk), rfl⟩
    · go_wp2
      go_ret
      exact ⟨ret_int (mask_end n k (by omega) (by omega) hk), rfl⟩
theorem rFirst (n f : Int) (w : World) (h0 : 0 ≤ n) (h1 : n < 18446744073709551616) (f0 : -9223372036854775808 ≤ f) (f1 : f < 9223372036854775808) :
    Calls Try.prog 30 #[.int .u64 n, .int .i64 f] w fun e w' => e = .returned (.int .i64 (first n f)) ∧ w = w' := by
  by_cases a : f < 0
  all_goals
    go_enter Try.func30, Try.ntmps30
    go_wp2_with fail
    go_loop [5] (fun i => ∃ k : Nat, i = .int .i64 k ∧ f ≤ k ∧ ((k : Int) ≤ f ∨ k ≤ 64) ∧ noneTo n f k) (fun i => 64 - (intOf i).toNat)
    case atStart =>
      first
      | exact ⟨0, by go_num, by omega, by omega, noneTo_start _ _ _ (by omega)⟩
      | exact ⟨f.toNat, by rw [Int.toNat_of_nonneg (by omega)], by omega, by omega, noneTo_start _ _ _ (by omega)⟩
    case round =>
      obtain ⟨k, rfl, hf, hk, hn⟩ := hrel
      by_cases hlt : (k : Int) < 64
      · cases hbit : bit n k
        · have hn' := noneTo_next n f k hn hbit
          go_wp2_with (go_at_call 38; refine (Bit n (k : Int) _ h0 h1 (by omega) (by omega)).mono ?_; rintro e w' ⟨rfl, rfl⟩; rw [Int.toNat_natCast, hbit])
          go_round
          case rel => exact ⟨k + 1, by go_num, by omega, by omega, hn'⟩
          case measure => simp [intOf]; omega
        · have he := Lib.hid (first_some n f k hn hf (by omega) hbit)
          go_wp2_with (go_at_call 38; refine (Bit n (k : Int) _ h0 h1 (by omega) (by omega)).mono ?_; rintro e w' ⟨rfl, rfl⟩; rw [Int.toNat_natCast, hbit])
          go_ret
          exact ⟨ret_int he.out.symm, rfl⟩
      · have he := Lib.hid (first_none n f k hn (by omega))
        go_wp2_with fail
        go_ret
        exact ⟨ret_int he.out.symm, rfl⟩
theorem dig_ref (n l : Int) (l0 : 0 ≤ l) (hl : l ≤ 8) : n / pw l.toNat % 64 = dig n l := by
  unfold dig; rw [if_neg (by omega)]
  split
  · obtain rfl : l = 8 := by omega
    rfl
  · rfl
theorem dig_ref_top (n l : Int) (hl : 8 < l) : n / pw 8 % 64 = dig n l := by
  unfold dig; rw [if_neg (by omega), if_pos (by omega)]
theorem rDigit (n l : Int) (w : World) (h0 : 0 ≤ n) (h1 : n < 18446744073709551616) (l0 : -9223372036854775808 ≤ l) (l1 : l < 9223372036854775808) :
    Calls Try.prog 23 #[.int .u64 n, .int .i64 l] w fun e w' => e = .returned (.int .i64 (dig n l)) ∧ w = w' := by
  by_cases a : l < 0
  · go_enter Try.func23, Try.ntmps23
    go_wp2_with fail
    go_ret
    exact ⟨ret_int (by unfold dig; rw [if_pos a]), rfl⟩
  · by_cases b : 8 < l
    · have p1 := pw_pos 8
      have p2 := pw_le (show 8 ≤ 8 by omega)
      have p3 : 0 ≤ n / pw 8 := Int.ediv_nonneg h0 (by omega)
      go_enter Try.func23, Try.ntmps23
      go_wp2_with (go_at_call 34; refine (Power _ _ (by omega) (by omega)).mono ?_; rintro e w' ⟨rfl, rfl⟩)
      go_ret
      exact ⟨ret_int (dig_ref_top n l (by omega)), rfl⟩
    · have p1 := pw_pos l.toNat
      have p2 := pw_le (show l.toNat ≤ 8 by omega)
      have p3 : 0 ≤ n / pw l.toNat := Int.ediv_nonneg h0 (by omega)
      go_enter Try.func23, Try.ntmps23
      go_wp2_with (go_at_call 34; refine (Power _ _ (by omega) (by omega)).mono ?_; rintro e w' ⟨rfl, rfl⟩)
      go_ret
      exact ⟨ret_int (dig_ref n l (by omega) (by omega)), rfl⟩
end Go.Proofs.Ytpiihfhjafnkmaa.B
