/- The document's own answers of layer 1: With, Top, Field, Put. -/
import Derived.Test.YtpiihfhjafnkmaaBRef
import Derived.Test.YtpiihfhjafnkmaaBTop
namespace Go.Proofs.Ytpiihfhjafnkmaa.B
set_option linter.unusedVariables false
set_option linter.unusedSimpArgs false
open Go.ChangeShapes Go.WideShapes Go.RowKit
theorem tmod64_bounds (d : Int) : -64 < d.tmod 64 ∧ d.tmod 64 < 64 := by
  have a := Int.tmod_lt_of_pos d (show (0 : Int) < 64 by decide)
  have b := Int.lt_tmod_of_pos d (show (0 : Int) < 64 by decide)
  omega
theorem tmod64 (d : Int) : (0 ≤ d.tmod 64 → d.tmod 64 = d % 64) ∧ (d.tmod 64 < 0 → d.tmod 64 + 64 = d % 64) := by
  have h := Int.tmod_add_mul_tdiv d 64
  have b := tmod64_bounds d
  omega
theorem with_ref (n l d x : Int) (h0 : 0 ≤ n) (h1 : n < 18446744073709551616) (l0 : 0 ≤ l) (l1 : l < 8) (hx : x = d % 64) (x0 : 0 ≤ x) (x1 : x < 64) :
    IntKind.u64.wrap (IntKind.u64.wrap (n / pw l.toNat / 64 * 64 * pw l.toNat) + IntKind.u64.wrap (x * pw l.toNat)) = withd n l d := by
  have hp := pw_pos l.toNat
  have hs := pw_succ l.toNat
  have hv : pw (l.toNat + 1) ≤ 281474976710656 := pw_le (by omega)
  have e1 : n / pw l.toNat / 64 * 64 * pw l.toNat = n / pw (l.toNat + 1) * pw (l.toNat + 1) := by
    rw [hs, ← Int.ediv_ediv_of_nonneg (by omega), Int.mul_assoc, Int.mul_comm 64]
  have hb : 0 ≤ x * pw l.toNat := Int.mul_nonneg x0 (by omega)
  have hc : x * pw l.toNat < pw (l.toNat + 1) := by
    rw [hs, Int.mul_comm (pw l.toNat)]; exact Int.mul_lt_mul_of_pos_right (by omega) (by omega)
  have hd0 : 0 ≤ n / pw (l.toNat + 1) * pw (l.toNat + 1) := Int.mul_nonneg (Int.ediv_nonneg h0 (by omega)) (by omega)
  have hd1 : n / pw (l.toNat + 1) * pw (l.toNat + 1) + n % pw (l.toNat + 1) = n := Int.ediv_mul_add_emod n _
  have hd2 := Int.emod_nonneg n (show pw (l.toNat + 1) ≠ 0 by omega)
  -- what is above the digit, and the digit: less than 2^64, as the multiple is one of a divisor of 2^64
  have hq : n / pw (l.toNat + 1) * pw (l.toNat + 1) + pw (l.toNat + 1) ≤ 18446744073709551616 := by
    have hdiv : pw (l.toNat + 1) * (18446744073709551616 / pw (l.toNat + 1)) = 18446744073709551616 := by
      have h2 : ∀ k : Fin 9, pw k.1 * (18446744073709551616 / pw k.1) = 18446744073709551616 := by decide
      exact h2 ⟨l.toNat + 1, by omega⟩
    have hlt : n / pw (l.toNat + 1) < 18446744073709551616 / pw (l.toNat + 1) := by
      apply Int.lt_of_mul_lt_mul_left (a := pw (l.toNat + 1)) _ (by omega)
      rw [hdiv, Int.mul_comm]; omega
    have := Int.mul_le_mul_of_nonneg_right (show n / pw (l.toNat + 1) + 1 ≤ 18446744073709551616 / pw (l.toNat + 1) by omega) (show 0 ≤ pw (l.toNat + 1) by omega)
    rw [Int.add_mul, Int.one_mul, Int.mul_comm (18446744073709551616 / _), hdiv] at this
    exact this
  rw [e1, IntKind.wrap_u64, IntKind.wrap_u64, IntKind.wrap_u64]
  unfold withd; rw [if_neg (by omega), if_neg (by omega), ← hx]
  omega
theorem rWith (n l d : Int) (w : World) (h0 : 0 ≤ n) (h1 : n < 18446744073709551616) (l0 : -9223372036854775808 ≤ l) (l1 : l < 9223372036854775808) (d0 : -9223372036854775808 ≤ d) (d1 : d < 9223372036854775808) :
    Calls Try.prog 25 #[.int .u64 n, .int .i64 l, .int .i64 d] w fun e w' => e = .returned (.int .u64 (withd n l d)) ∧ w = w' := by
  by_cases a : l < 0
  · go_enter Try.func25, Try.ntmps25
    go_wp2_with fail
    go_ret
    exact ⟨ret_int (by unfold withd; rw [if_pos (by omega)]), rfl⟩
  · by_cases b : 8 ≤ l
    · go_enter Try.func25, Try.ntmps25
      go_wp2_with fail
      go_ret
      exact ⟨ret_int (by unfold withd; rw [if_neg (by omega), if_pos (by omega)]), rfl⟩
    · have p1 := pw_pos l.toNat
      have p2 := pw_le (show l.toNat ≤ 8 by omega)
      have p3 : 0 ≤ n / pw l.toNat := Int.ediv_nonneg h0 (by omega)
      have p4 : n / pw l.toNat ≤ n := Int.ediv_le_self _ h0
      obtain ⟨t1, t2⟩ := tmod64_bounds d
      by_cases c : d.tmod 64 < 0
      · by_cases e : 0 ≤ d
        · have := Int.tmod_nonneg 64 e; omega
        go_enter Try.func25, Try.ntmps25
        go_wp2_with (go_at_call 34; refine (Power _ _ (by omega) (by omega)).mono ?_; rintro e w' ⟨rfl, rfl⟩)
        go_ret
        exact ⟨ret_int (with_ref n l d _ h0 h1 (by omega) (by omega) ((tmod64 d).2 c) (by omega) (by omega)), rfl⟩
      · by_cases e : 0 ≤ d
        · go_enter Try.func25, Try.ntmps25
          go_wp2_with (go_at_call 34; refine (Power _ _ (by omega) (by omega)).mono ?_; rintro e w' ⟨rfl, rfl⟩)
          go_ret
          exact ⟨ret_int (with_ref n l d _ h0 h1 (by omega) (by omega) rfl (by omega) (by omega)), rfl⟩
        · go_enter Try.func25, Try.ntmps25
          go_wp2_with (go_at_call 34; refine (Power _ _ (by omega) (by omega)).mono ?_; rintro e w' ⟨rfl, rfl⟩)
          go_ret
          exact ⟨ret_int (with_ref n l d _ h0 h1 (by omega) (by omega) ((tmod64 d).1 (by omega)) (by omega) (by omega)), rfl⟩
theorem digit_same (a b : Int) (h0 : 0 ≤ a) (h1 : 0 ≤ b) (h : ∀ j, j < 9 → digr a j = digr b j) : a = b := by
  have key : ∀ d k, d + k = 8 → a / pw k = b / pw k := by
    intro d
    induction d with
    | zero =>
      intro k hk
      obtain rfl : k = 8 := by omega
      have := h 8 (by omega)
      unfold digr at this; rwa [if_pos rfl, if_pos rfl] at this
    | succ d ih =>
      intro k hk
      have i1 := ih (k + 1) (by omega)
      have i2 := h k (by omega)
      unfold digr at i2; rw [if_neg (by omega), if_neg (by omega)] at i2
      rw [pw_succ, ← Int.ediv_ediv_of_nonneg (by have := pw_pos k; omega), ← Int.ediv_ediv_of_nonneg (by have := pw_pos k; omega)] at i1
      omega
  have := key 8 0 (by omega)
  unfold pw at this; simpa using this
theorem top_same (a : Int) : top a a = -1 := topB_at a a 0 (.inl rfl) 9 (by omega) (fun _ _ _ => rfl)
theorem Power8 (w : World) : Calls Try.prog 34 #[.int .i64 8] w fun e w' => e = .returned (.int .u64 (pw 8)) ∧ w = w' := Power 8 w (by omega) (by omega)
theorem rTop (a b : Int) (w : World) (h0 : 0 ≤ a) (h1 : a < 18446744073709551616) (h2 : 0 ≤ b) (h3 : b < 18446744073709551616) :
    Calls Try.prog 27 #[.int .u64 a, .int .u64 b] w fun e w' => e = .returned (.int .i64 (top a b)) ∧ ∃ n, w' = w.drewN n := by
  by_cases e : a = b
  · subst e
    have ht := Lib.hid (top_same a)
    go_enter Try.func27, Try.ntmps27
    go_wp2_with fail
    go_ret
    exact ⟨ret_int ht.out.symm, 0, rfl⟩
  · have he : (a == b) = false := by simpa using e
    have p1 := pw_pos 8
    by_cases hr : a / pw 8 = b / pw 8
    · have hr2 : (a / pw 8 != b / pw 8) = false := by simpa using hr
      have hr3 := Lib.hid hr
      clear hr
      go_enter Try.func27, Try.ntmps27
      go_wp2_with fail
      go_quiet ((go_at_call 34; exact Calls.quiet_of_same ((Power8 _).mono fun _ _ h => ⟨h.1, h.2.symm⟩)))
      go_wp2_with fail
      go_loop [5] (fun i => ∃ k : Nat, k ≤ 7 ∧ i = .int .i64 k ∧ ∀ j, k < j → j < 9 → digr a j = digr b j) (fun i => (intOf i).toNat)
      case atStart => exact ⟨7, by omega, rfl, fun j h1 h2 => by
        obtain rfl : j = 8 := by omega
        unfold digr; rw [if_pos rfl, if_pos rfl]; exact hr3.out⟩
      case round =>
        obtain ⟨k, hk, rfl, hs⟩ := hrel
        have hS := Lib.hid hs
        clear hs
        by_cases k0 : 0 < k
        · by_cases hd : dig a k = dig b k
          · have hd2 : (dig a k != dig b k) = false := by simpa using hd
            have hd3 := Lib.hid hd
            clear hd
            go_wp2_with (go_at_call 23; refine (rDigit _ _ _ (by omega) (by omega) (by omega) (by omega)).mono ?_; rintro e w' ⟨rfl, rfl⟩)
            go_round
            case rel => exact ⟨k - 1, by omega, by rw [show ((k : Int) - 1) = ((k - 1 : Nat) : Int) from by omega], fun j h1 h2 => by
              by_cases e : j = k
              · rw [e, ← dig_digr a k (by omega), ← dig_digr b k (by omega)]; exact hd3.out
              · exact hS.out j (by omega) h2⟩
            case measure => simp [intOf]; omega
          · have hd2 : (dig a k != dig b k) = true := by simpa using hd
            go_wp2_with (go_at_call 23; refine (rDigit _ _ _ (by omega) (by omega) (by omega) (by omega)).mono ?_; rintro e w' ⟨rfl, rfl⟩)
            go_ret
            refine ⟨ret_int ?_, nq, rfl⟩
            have := topB_at a b (k + 1) (.inr (by rw [show k + 1 - 1 = k by omega, ← dig_digr a k (by omega), ← dig_digr b k (by omega)]; exact hd)) 9 (by omega) (fun j h1 h2 => hS.out j (by omega) h2)
            show (k : Int) = topB a b 9
            omega
        · go_wp2_with fail
          go_ret
          refine ⟨ret_int ?_, nq, rfl⟩
          have := topB_at a b 1 (.inr fun h => e (digit_same a b h0 h2 fun j hj => by
            by_cases e : j = 0
            · rw [e]; exact h
            · exact hS.out j (by omega) hj)) 9 (by omega) (fun j h1 h2 => hS.out j (by omega) h2)
          show (0 : Int) = topB a b 9
          omega
    · have hr2 : (a / pw 8 != b / pw 8) = true := by simpa using hr
      go_enter Try.func27, Try.ntmps27
      go_wp2_with fail
      go_quiet ((go_at_call 34; exact Calls.quiet_of_same ((Power8 _).mono fun _ _ h => ⟨h.1, h.2.symm⟩)))
      go_wp2_with fail
      go_ret
      refine ⟨ret_int ?_, nq, rfl⟩
      have := topB_at a b 9 (.inr (by unfold digr; rw [if_pos rfl, if_pos rfl]; exact hr)) 9 (by omega) (fun j h1 h2 => by omega)
      show (8 : Int) = topB a b 9
      omega
end Go.Proofs.Ytpiihfhjafnkmaa.B
