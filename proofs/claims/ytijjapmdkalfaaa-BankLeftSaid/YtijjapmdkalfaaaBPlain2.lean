/- Put back what was read: the word as it was. -/
import Derived.Test.YtijjapmdkalfaaaBPlain
namespace Go.Proofs.Ytijjapmdkalfaaa.B
set_option linter.unusedVariables false
set_option linter.unusedSimpArgs false
theorem field_bounds (n low width : Int) (h0 : 0 ≤ n) (h1 : n < 4294967296) : 0 ≤ field n low width ∧ field n low width < 4294967296 := by
  unfold field; split
  · have a : n.toNat / 2 ^ low.toNat % 2 ^ min width.toNat 32 ≤ n.toNat := Nat.le_trans (Nat.mod_le _ _) (Nat.div_le_self _ _)
    omega
  · omega
theorem put_bounds (n low width v : Int) (h0 : 0 ≤ n) (h1 : n < 4294967296) : 0 ≤ put n low width v ∧ put n low width v < 4294967296 := by
  unfold put; split
  · have := ofBits_lt (putBit n low width v) 32
    have e32 : (2 : Nat) ^ 32 = 4294967296 := by decide
    omega
  · omega
theorem put_back (n low width v : Int) (h0 : 0 ≤ n) (h1 : n < 4294967296) : put (put n low width v) low width (field n low width) = n := by
  cases hb : inw low width
  · simp [put, hb]
  · obtain ⟨l0, l1, hw⟩ := inw_low hb
    obtain ⟨m, rfl⟩ := Int.eq_ofNat_of_zero_le h0
    have e32 : (2 : Nat) ^ 32 = 4294967296 := by decide
    rw [show put (put m low width v) low width (field m low width) = ((ofBits (putBit (put m low width v) low width (field m low width)) 32 : Nat) : Int) from by rw [put, if_pos hb]]
    congr 1
    apply Nat.eq_of_testBit_eq
    intro i
    rw [ofBits_testBit]
    by_cases hi : i < 32
    · by_cases hc : low.toNat ≤ i ∧ i - low.toNat < width.toNat
      · have h2 : i - low.toNat < min width.toNat 32 := by omega
        have h3 : i - low.toNat + low.toNat = i := by omega
        have h4 : i - low.toNat < 32 := by omega
        have h5 : putBit (put m low width v) low width (field m low width) i = (m / 2 ^ low.toNat % 2 ^ min width.toNat 32).testBit (i - low.toNat) := by
          rw [putBit, if_pos hc, field, if_pos hb, Int.toNat_natCast, Int.toNat_natCast]
        rw [h5, Nat.testBit_mod_two_pow, Nat.testBit_div_two_pow, h3]
        simp [hi, h2]
      · simp only [putBit, if_neg hc, hi, put, hb, if_true, Int.toNat_natCast, decide_true, Bool.true_and]
        rw [ofBits_testBit]
        simp only [hi, decide_true, Bool.true_and, putBit, if_neg hc, Int.toNat_natCast]
    · have : m.testBit i = false := Nat.testBit_lt_two_pow (Nat.lt_of_lt_of_le (show m < 2 ^ 32 by omega) (Nat.pow_le_pow_right (by decide) (by omega)))
      simp [hi, this]
end Go.Proofs.Ytijjapmdkalfaaa.B
