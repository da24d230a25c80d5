/- What each function of package bits returns, in the plain numbers of BPlain. -/
import Derived.Test.YtpiihfhjafnkmaaRows
import Derived.Test.YtpiihfhjafnkmaaBPlain
import Derived.WalkKit
import Derived.WalkLawsBesides
import Derived.Lib.Hide
import Derived.Laws.ResultCell
namespace Go.Proofs.Ytpiihfhjafnkmaa.B
set_option linter.unusedVariables false
set_option linter.unusedSimpArgs false
open Go.ChangeShapes Go.WideShapes Go.RowKit
theorem ret_int {k : IntKind} {a b : Int} (h : a = b) : Ending.returned (.int k a) = .returned (.int k b) := by rw [h]
theorem ret_bool {a b : Bool} (h : a = b) : Ending.returned (.bool a) = .returned (.bool b) := by rw [h]

theorem Lo (a : Int) (w : World) (h0 : 0 ≤ a) (h1 : a < 18446744073709551616) :
    Calls Try.prog 7 #[.int .u64 a] w fun e w' => e = .returned (.int .u32 (lo a)) ∧ w = w' := by
  go_enter Try.func7, Try.ntmps7
  go_wp2
  go_ret
  exact ⟨rfl, rfl⟩
theorem Hi (a : Int) (w : World) (h0 : 0 ≤ a) (h1 : a < 18446744073709551616) :
    Calls Try.prog 8 #[.int .u64 a] w fun e w' => e = .returned (.int .u32 (hi a)) ∧ w = w' := by
  go_enter Try.func8, Try.ntmps8
  go_wp2
  go_ret
  exact ⟨rfl, rfl⟩
theorem Join (h l : Int) (w : World) (h0 : 0 ≤ h) (h1 : h < 4294967296) (l0 : 0 ≤ l) (l1 : l < 4294967296) :
    Calls Try.prog 12 #[.int .u32 h, .int .u32 l] w fun e w' => e = .returned (.int .u64 (join h l)) ∧ w = w' := by
  go_enter Try.func12, Try.ntmps12
  go_wp2
  go_ret
  exact ⟨ret_int (or_join h l h0 h1 l0 l1), rfl⟩
theorem Add (a b : Int) (w : World) (h0 : 0 ≤ a) (h1 : a < 18446744073709551616) (l0 : 0 ≤ b) (l1 : b < 18446744073709551616) :
    Calls Try.prog 14 #[.int .u64 a, .int .u64 b] w fun e w' => e = .returned (.int .u64 (addS a b)) ∧ w = w' := by
  go_enter Try.func14, Try.ntmps14
  go_wp2
  all_goals (go_ret; exact ⟨ret_int (by unfold addS; first | rw [if_pos (by assumption)] | rw [if_neg (by omega)]), rfl⟩)
theorem Sub (a b : Int) (w : World) (h0 : 0 ≤ a) (h1 : a < 18446744073709551616) (l0 : 0 ≤ b) (l1 : b < 18446744073709551616) :
    Calls Try.prog 16 #[.int .u64 a, .int .u64 b] w fun e w' => e = .returned (.int .u64 (subS a b)) ∧ w = w' := by
  go_enter Try.func16, Try.ntmps16
  go_wp2
  all_goals (go_ret; exact ⟨ret_int (by unfold subS; first | rw [if_pos (by omega)] | rw [if_neg (by omega)]), rfl⟩)
theorem Mask (n : Int) (w : World) (h0 : -9223372036854775808 ≤ n) (h1 : n < 9223372036854775808) :
    Calls Try.prog 18 #[.int .i64 n] w fun e w' => e = .returned (.int .u64 (mask n)) ∧ w = w' := by
  by_cases a : n < 0
  · go_enter Try.func18, Try.ntmps18
    go_wp2
    go_ret
    exact ⟨ret_int (by unfold mask; rw [if_pos a]), rfl⟩
  · by_cases b : 64 < n
    · go_enter Try.func18, Try.ntmps18
      go_wp2
      go_ret
      exact ⟨ret_int (wrap_mask_top n (by omega)), rfl⟩
    · go_enter Try.func18, Try.ntmps18
      go_wp2
      go_ret
      exact ⟨ret_int (wrap_mask n (by omega) (by omega)), rfl⟩
theorem Signed (n : Int) (w : World) (h0 : 0 ≤ n) (h1 : n < 4294967296) :
    Calls Try.prog 20 #[.int .u32 n] w fun e w' => e = .returned (.int .i64 (signed n)) ∧ w = w' := by
  go_enter Try.func20, Try.ntmps20
  go_wp2
  go_ret
  exact ⟨ret_int (by unfold signed wrap64 wrap32; split <;> omega), rfl⟩
theorem inWord (low width : Int) (w : World) :
    Calls Try.prog 36 #[.int .i64 low, .int .i64 width] w fun e w' => e = .returned (.bool (inw low width)) ∧ w = w' := by
  go_enter Try.func36, Try.ntmps36
  go_wp2
  all_goals (go_ret; exact ⟨ret_bool (by unfold inw; first | (simp [*]; done) | (simp; omega)), rfl⟩)
theorem Digit (n l : Int) (w : World) (h0 : 0 ≤ n) (h1 : n < 18446744073709551616) (l0 : -9223372036854775808 ≤ l) (l1 : l < 9223372036854775808) :
    Calls Try.prog 22 #[.int .u64 n, .int .i64 l] w fun e w' => e = .returned (.int .i64 (dig n l)) ∧ w = w' := by
  by_cases a : l < 0
  · go_enter Try.func22, Try.ntmps22
    go_wp2
    go_ret
    exact ⟨ret_int (by unfold dig; rw [if_pos a]), rfl⟩
  · by_cases b : 8 < l
    · go_enter Try.func22, Try.ntmps22
      go_wp2
      go_ret
      exact ⟨ret_int (digit_top n l h0 h1 (by omega)), rfl⟩
    · go_enter Try.func22, Try.ntmps22
      go_wp2
      go_ret
      exact ⟨ret_int (digit_low n l h0 h1 (by omega) (by omega)), rfl⟩
theorem Set (p n : Int) (b : Nat) (w : World) (h0 : 0 ≤ p) (h1 : p < 64) (h2 : 0 ≤ n) (h3 : n < 18446744073709551616) (hc : w.cell? ⟨b, 0, none⟩ = some (.int .u64 n)) :
    Calls Try.prog 37 #[.int .i64 p, .pointer (some ⟨b, 0, none⟩)] w fun e w' => e = .returned (.bool (bit n p.toNat)) ∧ w = w' := by
  go_enter Try.func37, Try.ntmps37
  go_wp2
  go_ret
  exact ⟨ret_bool (set_bit n p h2 h3), rfl⟩
theorem With (n l d : Int) (w : World) (h0 : 0 ≤ n) (h1 : n < 18446744073709551616) (l0 : -9223372036854775808 ≤ l) (l1 : l < 9223372036854775808) (d0 : -9223372036854775808 ≤ d) (d1 : d < 9223372036854775808) :
    Calls Try.prog 24 #[.int .u64 n, .int .i64 l, .int .i64 d] w fun e w' => e = .returned (.int .u64 (withd n l d)) ∧ w = w' := by
  by_cases a : l < 0
  · go_enter Try.func24, Try.ntmps24
    go_wp2_with fail
    go_ret
    exact ⟨ret_int (by unfold withd; rw [if_pos (by omega)]), rfl⟩
  · by_cases b : 8 ≤ l
    · go_enter Try.func24, Try.ntmps24
      go_wp2_with fail
      go_ret
      exact ⟨ret_int (by unfold withd; rw [if_neg (by omega), if_pos b]), rfl⟩
    · go_enter Try.func24, Try.ntmps24
      go_wp2_with (go_at_call 18; refine (Mask _ _ (by omega) (by omega)).mono ?_; rintro e w' ⟨rfl, rfl⟩)
      go_ret
      exact ⟨ret_int (with_code n l d h0 h1 (by omega) (by omega)), rfl⟩
theorem First (n f : Int) (w : World) (h0 : 0 ≤ n) (h1 : n < 18446744073709551616) (f0 : -9223372036854775808 ≤ f) (f1 : f < 9223372036854775808) :
    Calls Try.prog 29 #[.int .u64 n, .int .i64 f] w fun e w' => e = .returned (.int .i64 (first n f)) ∧ Below w.heap.size w w' := by
  have hb : Below w.heap.size w (w.alloc (.cells #[.int .u64 n] 22)) := (Below.refl _ _).alloc (Nat.le_refl _) _
  have hc : (w.alloc (.cells #[.int .u64 n] 22)).cell? ⟨w.heap.size, 0, none⟩ = some (.int .u64 n) := by simp [go_sem]
  by_cases a : f < 0
  all_goals
    go_enter Try.func29, Try.ntmps29
    go_wp2_with fail
    go_loop [6] (fun i => ∃ k : Nat, i = .int .i64 k ∧ f ≤ k ∧ ((k : Int) ≤ f ∨ k ≤ 64) ∧ noneTo n f k) (fun i => 64 - (intOf i).toNat)
    case atStart =>
      first
      | exact ⟨0, by go_num, by omega, by omega, noneTo_start _ _ _ (by omega)⟩
      | exact ⟨f.toNat, by rw [Int.toNat_of_nonneg (by omega)], by omega, by omega, noneTo_start _ _ _ (by omega)⟩
    case round =>
      obtain ⟨k, rfl, hf, hk, hn⟩ := hrel
      by_cases hlt : (k : Int) < 64
      · cases hbit : bit n k
        · have hn' := noneTo_next n f k hn hbit
          go_wp2_with (go_at_call 37; refine (Set (k : Int) n _ _ (by omega) (by omega) h0 h1 hc).mono ?_; rintro e w' ⟨rfl, rfl⟩; rw [Int.toNat_natCast, hbit])
          go_round
          case rel => exact ⟨k + 1, by go_num, by omega, by omega, hn'⟩
          case measure => simp [intOf]; omega
        · have he := Lib.hid (first_some n f k hn hf (by omega) hbit)
          go_wp2_with (go_at_call 37; refine (Set (k : Int) n _ _ (by omega) (by omega) h0 h1 hc).mono ?_; rintro e w' ⟨rfl, rfl⟩; rw [Int.toNat_natCast, hbit])
          go_ret
          exact ⟨ret_int he.out.symm, hb⟩
      · have he := Lib.hid (first_none n f k hn (by omega))
        go_wp2_with fail
        go_ret
        exact ⟨ret_int he.out.symm, hb⟩
theorem Split (n : Int) (w : World) (h0 : 0 ≤ n) (h1 : n < 18446744073709551616)  :
    Calls Try.prog 35 #[ .int .u64 n] w fun e w' => e = .returned (.agg #[.int .u64 (dig n 0), .int .u64 (dig n 1), .int .u64 (dig n 2), .int .u64 (dig n 3), .int .u64 (dig n 4), .int .u64 (dig n 5), .int .u64 (dig n 6), .int .u64 (dig n 7), .int .u64 (n / 281474976710656)]) ∧ Below w.heap.size w w' := by
  have a0 := dig_nonneg n 0
  have a1 := dig_nonneg n 1
  have a2 := dig_nonneg n 2
  have a3 := dig_nonneg n 3
  have a4 := dig_nonneg n 4
  have a5 := dig_nonneg n 5
  have a6 := dig_nonneg n 6
  have a7 := dig_nonneg n 7
  have b0 := dig_lt n 0
  have b1 := dig_lt n 1
  have b2 := dig_lt n 2
  have b3 := dig_lt n 3
  have b4 := dig_lt n 4
  have b5 := dig_lt n 5
  have b6 := dig_lt n 6
  have b7 := dig_lt n 7
  go_enter Try.func35, Try.ntmps35
  go_wp2_with fail
  refine wp_loop_rounds 9 ?_
  iterate 9
    rw [rounds_succ]
    go_wp2_with (go_at_call 22; refine (Digit _ _ _ (by omega) (by omega) (by omega) (by omega)).mono ?_; rintro e w' ⟨rfl, rfl⟩)
  refine bodyPost_ret (v := .agg #[.int .u64 (dig n 0), .int .u64 (dig n 1), .int .u64 (dig n 2), .int .u64 (dig n 3), .int .u64 (dig n 4), .int .u64 (dig n 5), .int .u64 (dig n 6), .int .u64 (dig n 7), .int .u64 (n / 281474976710656)]) (by simp [results, Try.results35, go_sem]) rfl ⟨rfl, ?_⟩
  exact ((Below.refl _ _).alloc (Nat.le_refl _) _).alloc (by simp) _
end Go.Proofs.Ytpiihfhjafnkmaa.B
