/- The plain numbers of layer 2 (reg): words written, with bits set, with bits 0: no Go, no program. -/
import Derived.Test.YteaanlemmhnpgaaBPlain
namespace Go.Proofs.Yteaanlemmhnpgaa.B
set_option linter.unusedVariables false
set_option linter.unusedSimpArgs false
/-- Is a bit of a register set, written v? -/
def stB (a wr cl v : Int) (i : Nat) : Bool := if (bit cl i && bit v i) = true then false else if bit wr i = true then bit v i else bit a i
def stV (a wr cl v : Int) : Int := ((ofBits (stB a wr cl v) 32 : Nat) : Int)
def tnB (a up dn : Int) (i : Nat) : Bool := (bit a i || bit up i) && !bit dn i
def tnV (a up dn : Int) : Int := ((ofBits (tnB a up dn) 32 : Nat) : Int)
/-- The number so far, and the unit. -/
def ob (f : Nat → Bool) (k : Nat) : Int := ((ofBits f k : Nat) : Int)
def un (k : Nat) : Int := 2 ^ k % 4294967296
theorem ob_zero (f : Nat → Bool) : ob f 0 = 0 := rfl
theorem ob_bounds (f : Nat → Bool) (k : Nat) (h : k ≤ 32) : 0 ≤ ob f k ∧ ob f k < 4294967296 := by
  have a := ofBits_lt f k
  have b : 2 ^ k ≤ 2 ^ 32 := Nat.pow_le_pow_right (by decide) h
  unfold ob; omega
theorem un_bounds (k : Nat) : 0 ≤ un k ∧ un k < 4294967296 := by unfold un; omega
theorem un_pow (k : Nat) (h : k < 32) : un k = ((2 ^ k : Nat) : Int) := by
  have b : 2 ^ k ≤ 2 ^ 31 := Nat.pow_le_pow_right (by decide) (by omega)
  unfold un; rw [← cast_two_pow]
  generalize 2 ^ k = x at b ⊢
  omega
theorem un_succ (k : Nat) : un (k + 1) = 2 * un k % 4294967296 := by
  unfold un; rw [Int.pow_succ]; omega
theorem ob_un (f : Nat → Bool) (k : Nat) (h : k < 32) : ob f k + un k < 4294967296 := by
  have a := ofBits_lt f k
  have b : 2 ^ (k + 1) ≤ 2 ^ 32 := Nat.pow_le_pow_right (by decide) (by omega)
  rw [Nat.pow_succ] at b
  rw [un_pow k h]; unfold ob; omega
theorem ob_yes (f : Nat → Bool) (k : Nat) (h : k < 32) (hf : f k = true) : ob f (k + 1) = ob f k + un k := by
  rw [un_pow k h]; unfold ob; rw [ofBits, if_pos hf]; push_cast; rfl
theorem ob_no (f : Nat → Bool) (k : Nat) (hf : f k = false) : ob f (k + 1) = ob f k := by
  unfold ob; rw [ofBits, if_neg (by rw [hf]; decide)]; simp
theorem bit_testBit (n : Int) (i : Nat) (h : 0 ≤ n) : bit n i = n.toNat.testBit i := by
  obtain ⟨m, rfl⟩ := Int.eq_ofNat_of_zero_le h
  rw [Int.toNat_natCast, Nat.testBit_eq_decide_div_mod_eq]
  unfold bit
  have : ((m : Int) / 2 ^ i % 2) = ((m / 2 ^ i % 2 : Nat) : Int) := by push_cast; rfl
  rw [this]
  exact decide_eq_decide.2 (by omega)
theorem bit_ofBits (f : Nat → Bool) (i : Nat) : bit ((ofBits f 32 : Nat) : Int) i = (decide (i < 32) && f i) := by
  rw [bit_testBit _ _ (by omega), Int.toNat_natCast, ofBits_testBit]
theorem bit_high (n : Int) (i : Nat) (h0 : 0 ≤ n) (h1 : n < 4294967296) (hi : 32 ≤ i) : bit n i = false := by
  rw [bit_testBit n i h0]
  apply Nat.testBit_lt_two_pow
  have : 2 ^ 32 ≤ 2 ^ i := Nat.pow_le_pow_right (by decide) hi
  omega
/-- Words of 32 bits with the same bits are the same. -/
theorem same_bits {a b : Int} (a0 : 0 ≤ a) (a1 : a < 4294967296) (b0 : 0 ≤ b) (b1 : b < 4294967296) (h : ∀ i, i < 32 → bit a i = bit b i) : a = b := by
  have : a.toNat = b.toNat := by
    apply Nat.eq_of_testBit_eq
    intro i
    rw [← bit_testBit a i a0, ← bit_testBit b i b0]
    by_cases hi : i < 32
    · exact h i hi
    · rw [bit_high a i a0 a1 (by omega), bit_high b i b0 b1 (by omega)]
  omega
theorem and_bounds (a b : Int) (a0 : 0 ≤ a) (a1 : a < 4294967296) (b0 : 0 ≤ b) (b1 : b < 4294967296) : 0 ≤ bits BinOp.and IntKind.u32 a b ∧ bits BinOp.and IntKind.u32 a b < 4294967296 := by
  rw [u32_and _ _ a0 a1 b0 b1]
  have : a.toNat &&& b.toNat ≤ a.toNat := Nat.and_le_left
  omega
theorem andNot_bounds (a b : Int) (a0 : 0 ≤ a) (a1 : a < 4294967296) (b0 : 0 ≤ b) (b1 : b < 4294967296) : 0 ≤ bits BinOp.andNot IntKind.u32 a b ∧ bits BinOp.andNot IntKind.u32 a b < 4294967296 := by
  rw [u32_andNot _ _ a0 a1 b0 b1]
  have : a.toNat &&& (4294967295 - b.toNat) ≤ a.toNat := Nat.and_le_left
  omega
theorem or_nat (a b : Int) (a0 : 0 ≤ a) (a1 : a < 4294967296) (b0 : 0 ≤ b) (b1 : b < 4294967296) : bits BinOp.or IntKind.u32 a b = ((a.toNat ||| b.toNat : Nat) : Int) := by
  obtain ⟨m, rfl⟩ := Int.eq_ofNat_of_zero_le a0
  obtain ⟨n, rfl⟩ := Int.eq_ofNat_of_zero_le b0
  rw [u32_or_nat _ _ (by omega) (by omega)]; simp
theorem or_bounds (a b : Int) (a0 : 0 ≤ a) (a1 : a < 4294967296) (b0 : 0 ≤ b) (b1 : b < 4294967296) : 0 ≤ bits BinOp.or IntKind.u32 a b ∧ bits BinOp.or IntKind.u32 a b < 4294967296 := by
  rw [or_nat _ _ a0 a1 b0 b1]
  have : a.toNat ||| b.toNat < 2 ^ 32 := Nat.or_lt_two_pow (by omega) (by omega)
  omega
theorem bit_and (a b : Int) (i : Nat) (a0 : 0 ≤ a) (a1 : a < 4294967296) (b0 : 0 ≤ b) (b1 : b < 4294967296) : bit (bits BinOp.and IntKind.u32 a b) i = (bit a i && bit b i) := by
  rw [u32_and _ _ a0 a1 b0 b1, bit_testBit _ _ (by omega), Int.toNat_natCast, Nat.testBit_and, bit_testBit _ _ a0, bit_testBit _ _ b0]
theorem bit_or (a b : Int) (i : Nat) (a0 : 0 ≤ a) (a1 : a < 4294967296) (b0 : 0 ≤ b) (b1 : b < 4294967296) : bit (bits BinOp.or IntKind.u32 a b) i = (bit a i || bit b i) := by
  rw [or_nat _ _ a0 a1 b0 b1, bit_testBit _ _ (by omega), Int.toNat_natCast, Nat.testBit_or, bit_testBit _ _ a0, bit_testBit _ _ b0]
theorem bit_andNot (a b : Int) (i : Nat) (hi : i < 32) (a0 : 0 ≤ a) (a1 : a < 4294967296) (b0 : 0 ≤ b) (b1 : b < 4294967296) : bit (bits BinOp.andNot IntKind.u32 a b) i = (bit a i && !bit b i) := by
  rw [u32_andNot _ _ a0 a1 b0 b1, bit_testBit _ _ (by omega), Int.toNat_natCast, Nat.testBit_and, bit_testBit _ _ a0, bit_testBit _ _ b0,
    show 4294967295 - b.toNat = 2 ^ 32 - (b.toNat + 1) from by omega, Nat.testBit_two_pow_sub_succ (by omega)]
  simp [hi]
theorem stV_bounds (a wr cl v : Int) : 0 ≤ stV a wr cl v ∧ stV a wr cl v < 4294967296 := ob_bounds (stB a wr cl v) 32 (by omega)
theorem tnV_bounds (a up dn : Int) : 0 ≤ tnV a up dn ∧ tnV a up dn < 4294967296 := ob_bounds (tnB a up dn) 32 (by omega)
theorem bit_stV (a wr cl v : Int) (i : Nat) (hi : i < 32) : bit (stV a wr cl v) i = stB a wr cl v i := by
  unfold stV; rw [bit_ofBits]; simp [hi]
theorem bit_tnV (a up dn : Int) (i : Nat) (hi : i < 32) : bit (tnV a up dn) i = tnB a up dn i := by
  unfold tnV; rw [bit_ofBits]; simp [hi]
theorem bit_zero (i : Nat) : bit 0 i = false := by unfold bit; simp
theorem store_code (a wr cl v : Int) (a0 : 0 ≤ a) (a1 : a < 4294967296) (w0 : 0 ≤ wr) (w1 : wr < 4294967296) (c0 : 0 ≤ cl) (c1 : cl < 4294967296) (v0 : 0 ≤ v) (v1 : v < 4294967296) :
    bits BinOp.andNot IntKind.u32 (bits BinOp.or IntKind.u32 (bits BinOp.andNot IntKind.u32 a wr) (bits BinOp.and IntKind.u32 v wr)) (bits BinOp.and IntKind.u32 v cl) = stV a wr cl v := by
  obtain ⟨p0, p1⟩ := andNot_bounds a wr a0 a1 w0 w1
  obtain ⟨q0, q1⟩ := and_bounds v wr v0 v1 w0 w1
  obtain ⟨r0, r1⟩ := and_bounds v cl v0 v1 c0 c1
  obtain ⟨s0, s1⟩ := or_bounds _ _ p0 p1 q0 q1
  obtain ⟨t0, t1⟩ := andNot_bounds _ _ s0 s1 r0 r1
  obtain ⟨u0, u1⟩ := stV_bounds a wr cl v
  refine same_bits t0 t1 u0 u1 fun i hi => ?_
  rw [bit_andNot _ _ i hi s0 s1 r0 r1, bit_or _ _ i p0 p1 q0 q1, bit_andNot _ _ i hi a0 a1 w0 w1, bit_and _ _ i v0 v1 w0 w1, bit_and _ _ i v0 v1 c0 c1, bit_stV _ _ _ _ i hi]
  unfold stB
  cases bit a i <;> cases bit wr i <;> cases bit cl i <;> cases bit v i <;> rfl
theorem raise_code (a v : Int) (a0 : 0 ≤ a) (a1 : a < 4294967296) (v0 : 0 ≤ v) (v1 : v < 4294967296) : bits BinOp.or IntKind.u32 a v = tnV a v 0 := by
  obtain ⟨s0, s1⟩ := or_bounds _ _ a0 a1 v0 v1
  obtain ⟨u0, u1⟩ := tnV_bounds a v 0
  refine same_bits s0 s1 u0 u1 fun i hi => ?_
  rw [bit_or _ _ i a0 a1 v0 v1, bit_tnV _ _ _ i hi]
  unfold tnB; rw [bit_zero]; simp
theorem fall_code (a v : Int) (a0 : 0 ≤ a) (a1 : a < 4294967296) (v0 : 0 ≤ v) (v1 : v < 4294967296) : bits BinOp.andNot IntKind.u32 a v = tnV a 0 v := by
  obtain ⟨s0, s1⟩ := andNot_bounds _ _ a0 a1 v0 v1
  obtain ⟨u0, u1⟩ := tnV_bounds a 0 v
  refine same_bits s0 s1 u0 u1 fun i hi => ?_
  rw [bit_andNot _ _ i hi a0 a1 v0 v1, bit_tnV _ _ _ i hi]
  unfold tnB; rw [bit_zero]; simp
theorem turn_turn (a up dn : Int) : tnV (tnV a up 0) 0 dn = tnV a up dn := by
  obtain ⟨s0, s1⟩ := tnV_bounds (tnV a up 0) 0 dn
  obtain ⟨u0, u1⟩ := tnV_bounds a up dn
  refine same_bits s0 s1 u0 u1 fun i hi => ?_
  rw [bit_tnV _ _ _ i hi, bit_tnV _ _ _ i hi]
  unfold tnB; rw [bit_tnV _ _ _ i hi, bit_zero]; unfold tnB; rw [bit_zero]; simp
/-- Written the same again: as it was. -/
theorem store_again (a wr cl v : Int) : stV (stV a wr cl v) wr cl v = stV a wr cl v := by
  obtain ⟨s0, s1⟩ := stV_bounds (stV a wr cl v) wr cl v
  obtain ⟨u0, u1⟩ := stV_bounds a wr cl v
  refine same_bits s0 s1 u0 u1 fun i hi => ?_
  rw [bit_stV _ _ _ _ i hi, bit_stV _ _ _ _ i hi]
  unfold stB; rw [bit_stV _ _ _ _ i hi]; unfold stB
  cases bit a i <;> cases bit wr i <;> cases bit cl i <;> cases bit v i <;> rfl
end Go.Proofs.Yteaanlemmhnpgaa.B
