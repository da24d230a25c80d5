/- A bit of a word, as the document's own answers ask it. -/
import Derived.Test.YtahhgeimbdlhpaaKit
import Derived.Test.YtahhgeimbdlhpaaBPlain
namespace Go.Proofs.Ytahhgeimbdlhpaa.B
set_option linter.unusedVariables false
set_option linter.unusedSimpArgs false
open Go.ChangeShapes Go.WideShapes Go.RowKit
def hv (n : Int) (k : Nat) : Int := n / 2 ^ k
theorem hv_nonneg {n : Int} (h : 0 ≤ n) (k : Nat) : 0 ≤ hv n k := div_pow_nonneg n k h
theorem hv_le {n : Int} (h : 0 ≤ n) (k : Nat) : hv n k ≤ n := Int.ediv_le_self _ h
theorem hv_succ (n : Int) (k : Nat) : hv n (k + 1) = hv n k / 2 := by
  unfold hv; rw [Int.pow_succ, Int.ediv_ediv_of_nonneg (Int.le_of_lt (Int.pow_pos (by decide)))]
theorem Bit (n i : Int) (w : World) (h0 : 0 ≤ n) (h1 : n < 18446744073709551616) (i0 : 0 ≤ i) (i1 : i < 64) :
    Calls Try.prog 28 #[.int .u64 n, .int .i64 i] w fun e w' => e = .returned (.bool (bit n i.toNat)) ∧ w = w' := by
  obtain ⟨m, rfl⟩ := Int.eq_ofNat_of_zero_le i0
  rw [Int.toNat_natCast]
  go_enter Try.func28, Try.ntmps28
  go_wp2
  go_loop [0, 5] (fun v i => ∃ k : Nat, k ≤ m ∧ i = .int .i64 k ∧ v = .int .u64 (hv n k)) (fun _ i => m - (intOf i).toNat)
  case atStart => exact ⟨0, by omega, rfl, by simp [hv]⟩
  case round =>
    obtain ⟨k, hk, rfl, rfl⟩ := hrel
    have p1 := hv_nonneg h0 k
    have p2 := hv_le h0 k
    by_cases hlt : k < m
    · go_wp2
      go_round
      case rel => exact ⟨k + 1, by omega, by go_num, by rw [hv_succ]⟩
      case measure => simp [intOf]; omega
    · go_wp2
      go_ret
      exact ⟨ret_bool (by rw [show k = m by omega]; rfl), rfl⟩
end Go.Proofs.Ytahhgeimbdlhpaa.B
