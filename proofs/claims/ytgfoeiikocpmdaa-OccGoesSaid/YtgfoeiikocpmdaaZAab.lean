/- Several texts in one: Layer 15, plain: words of 64 bits with a bit put; how many bits a word has, as the library adds them up. No Go. What .. -/
import Derived.Test.YtgfoeiikocpmdaaZAaa
import Derived.Deep.Cut
import Derived.Maps.Own
import Derived.Maps.OwnOps
import Derived.WideKeyEntry
import Derived.DeepKeys4
namespace Go.Proofs.Ytgfoeiikocpmdaa.B
set_option linter.unusedVariables false
set_option linter.unusedSimpArgs false
theorem bit_or64 (a b : Int) (i : Nat) (a0 : 0 ≤ a) (a1 : a < 18446744073709551616) (b0 : 0 ≤ b) (b1 : b < 18446744073709551616) : bit (bits BinOp.or IntKind.u64 a b) i = (bit a i || bit b i) := by
 rw [u64_or _ _ a0 a1 b0 b1, bit_testBit _ _ (by omega), Int.toNat_natCast, Nat.testBit_or, bit_testBit _ _ a0, bit_testBit _ _ b0]
theorem or64_bounds (a b : Int) (a0 : 0 ≤ a) (a1 : a < 18446744073709551616) (b0 : 0 ≤ b) (b1 : b < 18446744073709551616) : 0 ≤ bits BinOp.or IntKind.u64 a b ∧ bits BinOp.or IntKind.u64 a b < 18446744073709551616 := by
 rw [u64_or _ _ a0 a1 b0 b1]
 have : a.toNat ||| b.toNat < 2 ^ 64 := Nat.or_lt_two_pow (by omega) (by omega)
 omega
theorem bit_andNot64 (a b : Int) (i : Nat) (hi : i < 64) (a0 : 0 ≤ a) (a1 : a < 18446744073709551616) (b0 : 0 ≤ b) (b1 : b < 18446744073709551616) : bit (bits BinOp.andNot IntKind.u64 a b) i = (bit a i && !bit b i) := by
 rw [u64_andNot _ _ a0 a1 b0 b1, bit_testBit _ _ (by omega), Int.toNat_natCast, Nat.testBit_and, bit_testBit _ _ a0, bit_testBit _ _ b0,
  show 18446744073709551615 - b.toNat = 2 ^ 64 - (b.toNat + 1) from by omega, Nat.testBit_two_pow_sub_succ (by omega)]
 simp [hi]
theorem andNot64_bounds (a b : Int) (a0 : 0 ≤ a) (a1 : a < 18446744073709551616) (b0 : 0 ≤ b) (b1 : b < 18446744073709551616) : 0 ≤ bits BinOp.andNot IntKind.u64 a b ∧ bits BinOp.andNot IntKind.u64 a b < 18446744073709551616 := by
 rw [u64_andNot _ _ a0 a1 b0 b1]
 have : a.toNat &&& (18446744073709551615 - b.toNat) ≤ a.toNat := Nat.and_le_left
 omega
theorem bit_and64 (a b : Int) (i : Nat) (a0 : 0 ≤ a) (a1 : a < 18446744073709551616) (b0 : 0 ≤ b) (b1 : b < 18446744073709551616) : bit (bits BinOp.and IntKind.u64 a b) i = (bit a i && bit b i) := by
 rw [u64_and _ _ a0 a1 b0 b1, bit_testBit _ _ (by omega), Int.toNat_natCast, Nat.testBit_and, bit_testBit _ _ a0, bit_testBit _ _ b0]
theorem and64_bounds (a b : Int) (a0 : 0 ≤ a) (a1 : a < 18446744073709551616) (b0 : 0 ≤ b) (b1 : b < 18446744073709551616) : 0 ≤ bits BinOp.and IntKind.u64 a b ∧ bits BinOp.and IntKind.u64 a b < 18446744073709551616 := by
 rw [u64_and _ _ a0 a1 b0 b1]
 have : a.toNat &&& b.toNat ≤ a.toNat := Nat.and_le_left
 omega
theorem pow64 (s : Nat) (hs : s < 64) : 0 ≤ (2 : Int) ^ s ∧ (2 : Int) ^ s < 18446744073709551616 := by
 have h := two_pow_le (show s ≤ 63 by omega)
 have e : (2 : Int) ^ 63 = 9223372036854775808 := by decide
 have p : (0 : Int) < 2 ^ s := Int.pow_pos (by decide)
 omega
theorem bit_pow (s i : Nat) : bit (2 ^ s) i = decide (s = i) := by
 rw [bit_testBit _ _ (Int.le_of_lt (Int.pow_pos (by decide))), ← cast_two_pow, Int.toNat_natCast, Nat.testBit_two_pow]
theorem or_pow (n : Int) (s : Nat) (hs : s < 64) (h0 : 0 ≤ n) (h1 : n < 18446744073709551616) : bits BinOp.or IntKind.u64 n (2 ^ s) = wput n s true := by
 obtain ⟨p0, p1⟩ := pow64 s hs
 obtain ⟨a0, a1⟩ := or64_bounds n (2 ^ s) h0 h1 p0 p1
 obtain ⟨b0, b1⟩ := wput_bounds n s true
 refine same_bits64 a0 a1 b0 b1 fun i hi => ?_
 rw [bit_or64 _ _ _ h0 h1 p0 p1, bit_wput _ _ _ _ hi, bit_pow]
 by_cases e : i = s
 · rw [if_pos e, decide_eq_true e.symm, Bool.or_true]
 · rw [if_neg e, decide_eq_false (fun h => e h.symm), Bool.or_false]
theorem andNot_pow (n : Int) (s : Nat) (hs : s < 64) (h0 : 0 ≤ n) (h1 : n < 18446744073709551616) : bits BinOp.andNot IntKind.u64 n (2 ^ s) = wput n s false := by
 obtain ⟨p0, p1⟩ := pow64 s hs
 obtain ⟨a0, a1⟩ := andNot64_bounds n (2 ^ s) h0 h1 p0 p1
 obtain ⟨b0, b1⟩ := wput_bounds n s false
 refine same_bits64 a0 a1 b0 b1 fun i hi => ?_
 rw [bit_andNot64 _ _ _ hi h0 h1 p0 p1, bit_wput _ _ _ _ hi, bit_pow]
 by_cases e : i = s
 · rw [if_pos e, decide_eq_true e.symm]; simp
 · rw [if_neg e, decide_eq_false (fun h => e h.symm)]; simp
theorem and_pow (n : Int) (s : Nat) (hs : s < 64) (h0 : 0 ≤ n) (h1 : n < 18446744073709551616) : (bits BinOp.and IntKind.u64 n (2 ^ s) != 0) = bit n s := by
 obtain ⟨p0, p1⟩ := pow64 s hs
 obtain ⟨a0, a1⟩ := and64_bounds n (2 ^ s) h0 h1 p0 p1
 cases hb : bit n s
 · have : bits BinOp.and IntKind.u64 n (2 ^ s) = 0 := same_bits64 a0 a1 (Int.le_refl _) (by decide) fun i hi => by
    rw [bit_and64 _ _ _ h0 h1 p0 p1, bit_pow, bit_zero]
    by_cases e : s = i
    · rw [← e, hb]; rfl
    · rw [decide_eq_false e, Bool.and_false]
   rw [this]; rfl
 · have : bits BinOp.and IntKind.u64 n (2 ^ s) ≠ 0 := fun h => by
    have h2 := bit_and64 n (2 ^ s) s h0 h1 p0 p1
    rw [h, bit_zero, bit_pow, hb] at h2
    simp at h2
   simpa using this
def dv (h : Nat) (d : Nat → Nat) : Nat → Nat
 | 0 => 0
 | k + 1 => d 0 + 2 ^ h * dv h (fun i => d (i + 1)) k
def msk (h : Nat) : Nat → Nat
 | 0 => 0
 | k + 1 => (2 ^ h - 1) + 2 ^ (2 * h) * msk h k
def sm (d : Nat → Nat) : Nat → Nat
 | 0 => 0
 | k + 1 => sm d k + d k
theorem sm_pairs (d : Nat → Nat) (k : Nat) : sm (fun i => d (2 * i) + d (2 * i + 1)) k = sm d (2 * k) := by
 induction k with
 | zero => rfl
 | succ k ih =>
   show sm (fun i => d (2 * i) + d (2 * i + 1)) k + (d (2 * k) + d (2 * k + 1)) = sm d (2 * k) + d (2 * k) + d (2 * k + 1)
   omega
theorem sm_congr {d e : Nat → Nat} (k : Nat) (h : ∀ i, i < k → d i = e i) : sm d k = sm e k := by
 induction k with
 | zero => rfl
 | succ k ih => show sm d k + d k = sm e k + e k; rw [ih fun i hi => h i (by omega), h k (by omega)]
theorem dv_add (h : Nat) (d e : Nat → Nat) (k : Nat) : dv h d k + dv h e k = dv h (fun i => d i + e i) k := by
 induction k generalizing d e with
 | zero => rfl
 | succ k ih =>
   have := ih (fun i => d (i + 1)) (fun i => e (i + 1))
   show d 0 + 2 ^ h * dv h (fun i => d (i + 1)) k + (e 0 + 2 ^ h * dv h (fun i => e (i + 1)) k) = d 0 + e 0 + 2 ^ h * dv h (fun i => d (i + 1) + e (i + 1)) k
   rw [← this, Nat.mul_add]
   omega
theorem dv_zero (h : Nat) (d : Nat → Nat) (k : Nat) (hd : d k = 0) : dv h d (k + 1) = dv h d k := by
 induction k generalizing d with
 | zero => show d 0 + 2 ^ h * 0 = 0; omega
 | succ k ih =>
   have := ih (fun i => d (i + 1)) hd
   show d 0 + 2 ^ h * dv h (fun i => d (i + 1)) (k + 1) = d 0 + 2 ^ h * dv h (fun i => d (i + 1)) k
   rw [this]
theorem dv_div (h : Nat) (d : Nat → Nat) (k : Nat) (hd : ∀ i, d i < 2 ^ h) (hz : d k = 0) : dv h d k / 2 ^ h = dv h (fun i => d (i + 1)) k := by
 rw [← dv_zero h d k hz]
 show (d 0 + 2 ^ h * dv h (fun i => d (i + 1)) k) / 2 ^ h = _
 rw [Nat.add_mul_div_left _ _ (Nat.two_pow_pos h), Nat.div_eq_of_lt (hd 0), Nat.zero_add]
theorem dv_lt (h : Nat) (d : Nat → Nat) (k : Nat) (hd : ∀ i, d i < 2 ^ h) : dv h d k < 2 ^ (h * k) := by
 induction k generalizing d with
 | zero => show 0 < 2 ^ (h * 0); simp
 | succ k ih =>
   have := ih (fun i => d (i + 1)) fun i => hd (i + 1)
   have h0 := hd 0
   show d 0 + 2 ^ h * dv h (fun i => d (i + 1)) k < 2 ^ (h * (k + 1))
   rw [Nat.mul_succ, Nat.pow_add, Nat.mul_comm (2 ^ (h * k))]
   have : 2 ^ h * (dv h (fun i => d (i + 1)) k + 1) ≤ 2 ^ h * 2 ^ (h * k) := Nat.mul_le_mul_left _ this
   rw [Nat.mul_add] at this
   omega
theorem and_split (j a b x y : Nat) (ha : a < 2 ^ j) (hb : b < 2 ^ j) : (a + 2 ^ j * x) &&& (b + 2 ^ j * y) = (a &&& b) + 2 ^ j * (x &&& y) := by
 have p := Nat.two_pow_pos j
 have h1 : ((a + 2 ^ j * x) &&& (b + 2 ^ j * y)) % 2 ^ j = a &&& b := by
  rw [Nat.and_mod_two_pow, Nat.add_mul_mod_self_left, Nat.add_mul_mod_self_left, Nat.mod_eq_of_lt ha, Nat.mod_eq_of_lt hb]
 have h2 : ((a + 2 ^ j * x) &&& (b + 2 ^ j * y)) / 2 ^ j = x &&& y := by
  rw [Nat.and_div_two_pow, Nat.add_mul_div_left _ _ p, Nat.add_mul_div_left _ _ p, Nat.div_eq_of_lt ha, Nat.div_eq_of_lt hb, Nat.zero_add, Nat.zero_add]
 have h3 := Nat.mod_add_div ((a + 2 ^ j * x) &&& (b + 2 ^ j * y)) (2 ^ j)
 rw [h1, h2] at h3
 exact h3.symm
theorem and_even (h : Nat) (d : Nat → Nat) (k : Nat) (hd : ∀ i, d i < 2 ^ h) : dv h d (2 * k) &&& msk h k = dv (2 * h) (fun i => d (2 * i)) k := by
 induction k generalizing d with
 | zero => simp [dv, msk]
 | succ k ih =>
   have ih := ih (fun i => d (i + 2)) fun i => hd (i + 2)
   have h0 := hd 0
   have h1 := hd 1
   have e : (2 : Nat) ^ (2 * h) = 2 ^ h * 2 ^ h := by rw [Nat.two_mul, Nat.pow_add]
   have ha : d 0 + 2 ^ h * d 1 < 2 ^ (2 * h) := by
    have : 2 ^ h * (d 1 + 1) ≤ 2 ^ h * 2 ^ h := Nat.mul_le_mul_left _ h1
    rw [Nat.mul_add] at this
    omega
   have hm : 2 ^ h - 1 < 2 ^ (2 * h) := by
    have : 2 ^ h * 1 ≤ 2 ^ h * 2 ^ h := Nat.mul_le_mul_left _ (Nat.two_pow_pos h)
    have := Nat.two_pow_pos h
    omega
   have s := and_split (2 * h) (d 0 + 2 ^ h * d 1) (2 ^ h - 1) (dv h (fun i => d (i + 2)) (2 * k)) (msk h k) ha hm
   rw [Nat.and_two_pow_sub_one_eq_mod, Nat.add_mul_mod_self_left, Nat.mod_eq_of_lt h0, ih] at s
   show (d 0 + 2 ^ h * (d 1 + 2 ^ h * dv h (fun i => d (i + 2)) (2 * k))) &&& ((2 ^ h - 1) + 2 ^ (2 * h) * msk h k) = d 0 + 2 ^ (2 * h) * dv (2 * h) (fun i => d (2 * (i + 1))) k
   rw [Nat.mul_add, ← Nat.mul_assoc, ← e, ← Nat.add_assoc, s]
   rfl
theorem and_pairs (h : Nat) (d : Nat → Nat) (k : Nat) (hd : ∀ i, d i < 2 ^ h) (hz : d (2 * k) = 0) :
 ((dv h d (2 * k) / 2 ^ h) &&& msk h k) + (dv h d (2 * k) &&& msk h k) = dv (2 * h) (fun i => d (2 * i) + d (2 * i + 1)) k := by
 rw [dv_div h d _ hd hz, and_even h _ k hd, and_even h _ k fun i => hd (i + 1), Nat.add_comm, dv_add]
theorem and_both (h : Nat) (d : Nat → Nat) (k : Nat) (hd : ∀ i, d i + d (i + 1) < 2 ^ h) (hz : d (2 * k) = 0) :
 (dv h d (2 * k) / 2 ^ h + dv h d (2 * k)) &&& msk h k = dv (2 * h) (fun i => d (2 * i) + d (2 * i + 1)) k := by
 rw [dv_div h d _ (fun i => by have := hd i; omega) hz, Nat.add_comm, dv_add, and_even h _ k hd]
def dg (n i : Nat) : Nat := n / 2 ^ i % 2
theorem dg_dv (n k : Nat) : dv 1 (dg n) k = n % 2 ^ k := by
 induction k generalizing n with
 | zero => show 0 = n % 2 ^ 0; omega
 | succ k ih =>
   have ih := ih (n / 2)
   have e : (fun i => dg n (i + 1)) = dg (n / 2) := by funext i; unfold dg; rw [Nat.pow_succ, Nat.mul_comm, ← Nat.div_div_eq_div_mul]
   show dg n 0 + 2 ^ 1 * dv 1 (fun i => dg n (i + 1)) k = _
   rw [e, ih, show 2 ^ (k + 1) = 2 * 2 ^ k from by rw [Nat.pow_succ, Nat.mul_comm], Nat.mod_mul]
   show n / 2 ^ 0 % 2 + _ = _
   omega
def pop (n : Nat) : Nat := sm (dg n) 64
theorem dv_eight (e : Nat → Nat) : dv 8 e 8 = e 0 + 256 * (e 1 + 256 * (e 2 + 256 * (e 3 + 256 * (e 4 + 256 * (e 5 + 256 * (e 6 + 256 * e 7)))))) := rfl
theorem sm_eight (e : Nat → Nat) : sm e 8 = e 0 + e 1 + e 2 + e 3 + e 4 + e 5 + e 6 + e 7 := by show 0 + e 0 + e 1 + e 2 + e 3 + e 4 + e 5 + e 6 + e 7 = _; omega
theorem msk1 : msk 1 32 = 6148914691236517205 := by decide
theorem msk2 : msk 2 16 = 3689348814741910323 := by decide
theorem msk4 : msk 4 8 = 1085102592571150095 := by decide
theorem three (n : Nat) (hn : n < 18446744073709551616) : ∃ a b c e, ((n / 2) &&& 6148914691236517205) + (n &&& 6148914691236517205) = a ∧ ((a / 4) &&& 3689348814741910323) + (a &&& 3689348814741910323) = b ∧ (b / 16 + b) &&& 1085102592571150095 = c
 ∧ a < 18446744073709551616 ∧ b < 18446744073709551616 ∧ b / 16 + b < 18446744073709551616 ∧ c = dv 8 e 8 ∧ (∀ i, e i ≤ 8) ∧ sm e 8 = pop n := by
 have d1 : ∀ i, dg n i ≤ 1 := fun i => by unfold dg; omega
 have z1 : ∀ i, 64 ≤ i → dg n i = 0 := fun i hi => by
  have : 2 ^ 64 ≤ 2 ^ i := Nat.pow_le_pow_right (by decide) hi
  unfold dg
  rw [Nat.div_eq_of_lt (by omega)]
 have e1 : n = dv 1 (dg n) (2 * 32) := by rw [dg_dv, Nat.mod_eq_of_lt (by omega)]
 have f1 := and_pairs 1 (dg n) 32 (fun i => by have := d1 i; omega) (z1 _ (by decide))
 rw [← e1, msk1, show (2 : Nat) ^ 1 = 2 from rfl] at f1
 refine ⟨_, _, _, fun i => dg n (2 * (2 * (2 * i))) + dg n (2 * (2 * (2 * i)) + 1) + (dg n (2 * (2 * (2 * i) + 1)) + dg n (2 * (2 * (2 * i) + 1) + 1)) + (dg n (2 * (2 * (2 * i + 1))) + dg n (2 * (2 * (2 * i + 1)) + 1) + (dg n (2 * (2 * (2 * i + 1) + 1)) + dg n (2 * (2 * (2 * i + 1) + 1) + 1))), f1, rfl, rfl, ?_⟩
 have d2 : ∀ i, dg n (2 * i) + dg n (2 * i + 1) ≤ 2 := fun i => by have := d1 (2 * i); have := d1 (2 * i + 1); omega
 have z2 : ∀ i, 32 ≤ i → dg n (2 * i) + dg n (2 * i + 1) = 0 := fun i hi => by rw [z1 _ (by omega), z1 _ (by omega)]
 have f2 := and_pairs 2 (fun i => dg n (2 * i) + dg n (2 * i + 1)) 16 (fun i => by have := d2 i; show _ < 4; omega) (z2 _ (by decide))
 have b2 := dv_lt 2 (fun i => dg n (2 * i) + dg n (2 * i + 1)) 32 (fun i => by have := d2 i; show _ < 4; omega)
 rw [msk2, show (2 : Nat) ^ 2 = 4 from rfl, show 2 * 16 = 32 from rfl] at f2
 rw [show 2 * 1 = 2 from rfl, f2]
 have d3 : ∀ i, dg n (2 * (2 * i)) + dg n (2 * (2 * i) + 1) + (dg n (2 * (2 * i + 1)) + dg n (2 * (2 * i + 1) + 1)) ≤ 4 := fun i => by have := d2 (2 * i); have := d2 (2 * i + 1); omega
 have z3 : ∀ i, 16 ≤ i → dg n (2 * (2 * i)) + dg n (2 * (2 * i) + 1) + (dg n (2 * (2 * i + 1)) + dg n (2 * (2 * i + 1) + 1)) = 0 := fun i hi => by rw [z2 _ (by omega), z2 _ (by omega)]
 have f3 := and_both 4 (fun i => dg n (2 * (2 * i)) + dg n (2 * (2 * i) + 1) + (dg n (2 * (2 * i + 1)) + dg n (2 * (2 * i + 1) + 1))) 8 (fun i => by have := d3 i; have := d3 (i + 1); show _ < 16; omega) (z3 _ (by decide))
 have b3 := dv_lt 4 (fun i => dg n (2 * (2 * i)) + dg n (2 * (2 * i) + 1) + (dg n (2 * (2 * i + 1)) + dg n (2 * (2 * i + 1) + 1))) 16 (fun i => by have := d3 i; show _ < 16; omega)
 have g3 := dv_div 4 (fun i => dg n (2 * (2 * i)) + dg n (2 * (2 * i) + 1) + (dg n (2 * (2 * i + 1)) + dg n (2 * (2 * i + 1) + 1))) 16 (fun i => by have := d3 i; show _ < 16; omega) (z3 _ (by decide))
 have b4 := dv_lt 4 (fun i => (fun i => dg n (2 * (2 * i)) + dg n (2 * (2 * i) + 1) + (dg n (2 * (2 * i + 1)) + dg n (2 * (2 * i + 1) + 1))) (i + 1) + (fun i => dg n (2 * (2 * i)) + dg n (2 * (2 * i) + 1) + (dg n (2 * (2 * i + 1)) + dg n (2 * (2 * i + 1) + 1))) i) 16 (fun i => Nat.lt_of_le_of_lt (Nat.add_le_add (d3 (i + 1)) (d3 i)) (by decide))
 rw [← dv_add, ← g3] at b4
 rw [msk4, show (2 : Nat) ^ 4 = 16 from rfl, show 2 * 8 = 16 from rfl] at f3
 rw [show (2 : Nat) ^ 4 = 16 from rfl] at b4
 rw [show 2 * 2 = 4 from rfl]
 refine ⟨b2, b3, b4, f3, fun i => Nat.add_le_add (d3 (2 * i)) (d3 (2 * i + 1)), ?_⟩
 rw [sm_pairs (fun i => dg n (2 * (2 * i)) + dg n (2 * (2 * i) + 1) + (dg n (2 * (2 * i + 1)) + dg n (2 * (2 * i + 1) + 1))) 8, sm_pairs (fun i => dg n (2 * i) + dg n (2 * i + 1)) 16, sm_pairs (dg n) 32]
 rfl
theorem sums (e : Nat → Nat) (he : ∀ i, e i ≤ 8) (c x y z : Nat) (hc : c = dv 8 e 8) (hx : x = c + c / 256) (hy : y = x + x / 65536) (hz : z = y + y / 4294967296) : x < 18446744073709551616 ∧ y < 18446744073709551616 ∧ z < 9223372036854775808 ∧ z % 128 = sm e 8 := by
 have h0 := he 0
 have h1 := he 1
 have h2 := he 2
 have h3 := he 3
 have h4 := he 4
 have h5 := he 5
 have h6 := he 6
 have h7 := he 7
 rw [dv_eight] at hc
 rw [sm_eight]
 generalize e 0 = e0 at *
 generalize e 1 = e1 at *
 generalize e 2 = e2 at *
 generalize e 3 = e3 at *
 generalize e 4 = e4 at *
 generalize e 5 = e5 at *
 generalize e 6 = e6 at *
 generalize e 7 = e7 at *
 have q1 : c / 256 = e1 + 256 * (e2 + 256 * (e3 + 256 * (e4 + 256 * (e5 + 256 * (e6 + 256 * e7))))) := by omega
 have x1 : x / 65536 = e2 + e3 + 256 * (e3 + e4 + 256 * (e4 + e5 + 256 * (e5 + e6 + 256 * (e6 + e7 + 256 * e7)))) := by omega
 have y1 : y / 4294967296 = e4 + e5 + e6 + e7 + 256 * (e5 + e6 + e7 + 256 * (e6 + e7 + 256 * e7)) := by omega
 omega
end Go.Proofs.Ytgfoeiikocpmdaa.B
namespace Go.Proofs.Ytgfoeiikocpmdaa.B
set_option linter.unusedVariables false
set_option linter.unusedSimpArgs false
open Go.ChangeShapes Go.WideShapes Go.RowKit
theorem Set (p n : Int) (b : Nat) (w : World) (h0 : 0 ≤ p) (h1 : p < 64) (h2 : 0 ≤ n) (h3 : n < 18446744073709551616) (hc : w.cell? ⟨b, 0, none⟩ = some (.int .u64 n)) :
 Calls Try.prog 28 #[.int .i64 p, .pointer (some ⟨b, 0, none⟩)] w fun e w' => e = .returned (.bool (bit n p.toNat)) ∧ w = w' := by
 go_enter Try.func28, Try.ntmps28
 go_wp2
 go_ret
 exact ⟨ret_bool (set_bit n p h2 h3), rfl⟩
theorem First (n f : Int) (w : World) (h0 : 0 ≤ n) (h1 : n < 18446744073709551616) (f0 : -9223372036854775808 ≤ f) (f1 : f < 9223372036854775808) :
 Calls Try.prog 24 #[.int .u64 n, .int .i64 f] w fun e w' => e = .returned (.int .i64 (first n f)) ∧ Below w.heap.size w w' := by
 have hb : Below w.heap.size w (w.alloc (.cells #[.int .u64 n] 22)) := (Below.refl _ _).alloc (Nat.le_refl _) _
 have hc : (w.alloc (.cells #[.int .u64 n] 22)).cell? ⟨w.heap.size, 0, none⟩ = some (.int .u64 n) := by simp [go_sem]
 by_cases a : f < 0
 all_goals
  go_enter Try.func24, Try.ntmps24
  go_wp2_with fail
  go_loop [6] (fun i => ∃ k : Nat, i = .int .i64 k ∧ f ≤ k ∧ ((k : Int) ≤ f ∨ k ≤ 64) ∧ noneTo n f k) (fun i => 64 - (intOf i).toNat)
  case atStart =>
   first
   | exact ⟨0, by go_num, by omega, by omega, noneTo_start _ _ _ (by omega)⟩
   | exact ⟨f.toNat, by rw [Int.toNat_of_nonneg (by omega)], by omega, by omega, noneTo_start _ _ _ (by omega)⟩
  case round =>
   obtain ⟨k, rfl, hf, hk, hn⟩ := hrel
   by_cases hlt : (k : Int) < 64
   · cases hbit : bit n k
     · have hn' := noneTo_next n f k hn hbit
       go_wp2_with (go_at_call 28; refine (Set (k : Int) n _ _ (by omega) (by omega) h0 h1 hc).mono ?_; rintro e w' ⟨rfl, rfl⟩; rw [Int.toNat_natCast, hbit])
       go_round
       case rel => exact ⟨k + 1, by go_num, by omega, by omega, hn'⟩
       case measure => simp [intOf]; omega
     · have he := Lib.hid (first_some n f k hn hf (by omega) hbit)
       go_wp2_with (go_at_call 28; refine (Set (k : Int) n _ _ (by omega) (by omega) h0 h1 hc).mono ?_; rintro e w' ⟨rfl, rfl⟩; rw [Int.toNat_natCast, hbit])
       go_ret
       exact ⟨ret_int he.out.symm, hb⟩
   · have he := Lib.hid (first_none n f k hn (by omega))
     go_wp2_with fail
     go_ret
     exact ⟨ret_int he.out.symm, hb⟩
end Go.Proofs.Ytgfoeiikocpmdaa.B
namespace Go.Proofs.Ytgfoeiikocpmdaa.B
set_option linter.unusedVariables false
set_option linter.unusedSimpArgs false
set_option maxRecDepth 100000
open Go.ChangeShapes Go.WideShapes Go.RowKit Go.Sort
theorem oIsLevel (l : Int) (w : World) : Calls Try.prog 21 #[.int .i64 l] w fun e w' => e = .returned (.bool (decide (0 ≤ l) && decide (l < 8))) ∧ w = w' := by
 by_cases h0 : 0 ≤ l
 · have e0 : decide (0 ≤ l) = true := decide_eq_true h0
   clear h0
   go_enter Try.func21, Try.ntmps21
   go_wp2_with fail
   go_ret
   exact ⟨by rw [e0, Bool.true_and]; rfl, rfl⟩
 · have e0 : decide (0 ≤ l) = false := decide_eq_false h0
   clear h0
   go_enter Try.func21, Try.ntmps21
   go_wp2_with fail
   go_ret
   exact ⟨by rw [e0, Bool.false_and]; rfl, rfl⟩
theorem oIsSlot (l : Int) (w : World) : Calls Try.prog 22 #[.int .i64 l] w fun e w' => e = .returned (.bool (decide (0 ≤ l) && decide (l < 64))) ∧ w = w' := by
 by_cases h0 : 0 ≤ l
 · have e0 : decide (0 ≤ l) = true := decide_eq_true h0
   clear h0
   go_enter Try.func22, Try.ntmps22
   go_wp2_with fail
   go_ret
   exact ⟨by rw [e0, Bool.true_and]; rfl, rfl⟩
 · have e0 : decide (0 ≤ l) = false := decide_eq_false h0
   clear h0
   go_enter Try.func22, Try.ntmps22
   go_wp2_with fail
   go_ret
   exact ⟨by rw [e0, Bool.false_and]; rfl, rfl⟩
theorem oBit (s : Int) (w : World) (h0 : 0 ≤ s) (h1 : s < 64) : Calls Try.prog 23 #[.int .i64 s] w fun e w' => e = .returned (.int .u64 (2 ^ s.toNat)) ∧ w = w' := by
 go_enter Try.func23, Try.ntmps23
 go_wp2_with fail
 go_ret
 refine ⟨ret_int ?_, rfl⟩
 obtain ⟨p0, p1⟩ := pow64 s.toNat (by omega)
 rw [IntKind.wrap_u64]
 omega
theorem and_c (x : Int) (a : Nat) (c : Int) (k : Nat) (hx : x = a) (ha : a < 18446744073709551616) (h0 : 0 ≤ c) (h1 : c < 18446744073709551616) (hk : c.toNat = k) : bits BinOp.and IntKind.u64 x c = ((a &&& k : Nat) : Int) := by
 subst hx hk
 rw [u64_and _ _ (by omega) (by omega) h0 h1, Int.toNat_natCast]
theorem c1 : (6148914691236517205 : Int).toNat = 6148914691236517205 := by decide
theorem c2 : (3689348814741910323 : Int).toNat = 3689348814741910323 := by decide
theorem c4 : (1085102592571150095 : Int).toNat = 1085102592571150095 := by decide
theorem wrap_nat (a : Nat) (ha : a < 18446744073709551616) : IntKind.u64.wrap (a : Int) = a := by rw [IntKind.wrap_u64]; omega
theorem i64_and127 (d : Int) : bits BinOp.and IntKind.i64 d 127 = d % 128 := by
 have m : (BitVec.ofInt 64 127).toNat = 2 ^ 7 - 1 := by decide
 have key : (BitVec.ofInt 64 d &&& BitVec.ofInt 64 127).toNat = (d % ((2 ^ 64 : Nat) : Int)).toNat % 2 ^ 7 := by
  rw [BitVec.toNat_and, BitVec.toNat_ofInt, m, Nat.and_two_pow_sub_one_eq_mod]
 show IntKind.i64.wrap ((BitVec.ofInt 64 d &&& BitVec.ofInt 64 127).toNat : Nat) = d % 128
 rw [key, IntKind.wrap_i64]
 omega
theorem wrap_low (z : Nat) (h : z < 9223372036854775808) : wrap64 (z : Int) % 128 = ((z % 128 : Nat) : Int) := by
 unfold wrap64
 omega
theorem ones_num (N : Nat) (hN : N < 18446744073709551616) {A B C X Y Z : Int} (hA : IntKind.u64.wrap (bits BinOp.and IntKind.u64 ((N : Int) / 2) 6148914691236517205 + bits BinOp.and IntKind.u64 N 6148914691236517205) = A)
 (hB : IntKind.u64.wrap (bits BinOp.and IntKind.u64 (A / 4) 3689348814741910323 + bits BinOp.and IntKind.u64 A 3689348814741910323) = B) (hC : bits BinOp.and IntKind.u64 (IntKind.u64.wrap (B / 16 + B)) 1085102592571150095 = C)
 (hX : IntKind.u64.wrap (C + C / 256) = X) (hY : IntKind.u64.wrap (X + X / 65536) = Y) (hZ : IntKind.u64.wrap (Y + Y / 4294967296) = Z) : bits BinOp.and IntKind.i64 (wrap64 Z) 127 = (pop N : Int) := by
 obtain ⟨a, b, c, e, ha, hb, hc, la, lb, lc, hd, he, hs⟩ := three N hN
 obtain ⟨x, hx⟩ : ∃ x, x = c + c / 256 := ⟨_, rfl⟩
 obtain ⟨y, hy⟩ : ∃ y, y = x + x / 65536 := ⟨_, rfl⟩
 obtain ⟨z, hz⟩ : ∃ z, z = y + y / 4294967296 := ⟨_, rfl⟩
 obtain ⟨lx, ly, lz, hm⟩ := sums e he c x y z hd hx hy hz
 obtain rfl : (a : Int) = A := by
  rw [← hA, and_c _ (N / 2) _ _ (by omega) (by omega) (by decide) (by decide) c1, and_c _ N _ _ rfl hN (by decide) (by decide) c1, ← Int.natCast_add, ha, wrap_nat _ la]
 obtain rfl : (b : Int) = B := by
  rw [← hB, and_c _ (a / 4) _ _ (by omega) (by omega) (by decide) (by decide) c2, and_c _ a _ _ rfl la (by decide) (by decide) c2, ← Int.natCast_add, hb, wrap_nat _ lb]
 obtain rfl : (c : Int) = C := by
  rw [← hC, show (b : Int) / 16 + b = ((b / 16 + b : Nat) : Int) by omega, wrap_nat _ lc, and_c _ (b / 16 + b) _ _ rfl lc (by decide) (by decide) c4, hc]
 obtain rfl : (x : Int) = X := by rw [← hX, ← wrap_nat _ lx, hx]; rfl
 obtain rfl : (y : Int) = Y := by rw [← hY, ← wrap_nat _ ly, hy]; rfl
 obtain rfl : (z : Int) = Z := by rw [← hZ, ← wrap_nat _ (by omega : z < 18446744073709551616), hz]; rfl
 rw [i64_and127, ← hs, ← hm]
 exact wrap_low z lz
theorem oOnes (n : Int) (w : World) (h0 : 0 ≤ n) (h1 : n < 18446744073709551616) : Calls Try.prog 27 #[.int .u64 n] w fun e w' => e = .returned (.int .i64 (pop n.toNat)) ∧ w = w' := by
 go_enter Try.func27, Try.ntmps27
 go_wp2_with fail
 go_ret
 refine ⟨ret_int ?_, rfl⟩
 obtain ⟨N, rfl⟩ := Int.eq_ofNat_of_zero_le h0
 rw [Int.toNat_natCast]
 exact ones_num N (by omega) rfl rfl rfl rfl rfl rfl
end Go.Proofs.Ytgfoeiikocpmdaa.B
namespace Go.Proofs.Ytgfoeiikocpmdaa.B
set_option linter.unusedVariables false
set_option linter.unusedSimpArgs false
open Go.ChangeShapes Go.WideShapes Go.RowKit Go.Sort Go.MapKept
open Go.ChangeMaps (setBlock modify_eq_set set_perm)
structure Off (S : Nat → Prop) (w w' : World) : Prop where
 os : w'.os = w.os
 tape : w'.tape = w.tape
 output : w'.output = w.output
 size : w.heap.size ≤ w'.heap.size
 block : ∀ k, k < w.heap.size → ¬ S k → w'.heap[k]? = w.heap[k]?
theorem Off.refl (S : Nat → Prop) (w : World) : Off S w w := ⟨rfl, rfl, rfl, Nat.le_refl _, fun _ _ _ => rfl⟩
theorem Off.trans {S : Nat → Prop} {a b c : World} (h : Off S a b) (k : Off S b c) : Off S a c :=
 ⟨k.os.trans h.os, k.tape.trans h.tape, k.output.trans h.output, Nat.le_trans h.size k.size, fun i hi hs => (k.block i (Nat.lt_of_lt_of_le hi h.size) hs).trans (h.block i hi hs)⟩
theorem Off.mono {S T : Nat → Prop} {a b : World} (h : Off S a b) (hst : ∀ k, k < a.heap.size → S k → T k) : Off T a b :=
 ⟨h.os, h.tape, h.output, h.size, fun i hi hs => h.block i hi fun h1 => hs (hst i hi h1)⟩
theorem Off.next {S T : Nat → Prop} {a b c : World} (h : Off S a b) (k : Off T b c) (hst : ∀ i, i < a.heap.size → T i → S i) : Off S a c :=
 ⟨k.os.trans h.os, k.tape.trans h.tape, k.output.trans h.output, Nat.le_trans h.size k.size, fun i hi hs => (k.block i (Nat.lt_of_lt_of_le hi h.size) fun h1 => hs (hst i hi h1)).trans (h.block i hi hs)⟩
theorem Off.ofGrown {S : Nat → Prop} {a b : World} {row : Option Nat} (h : a.grownBy b row) (hr : ∀ k, row = some k → S k) : Off S a b :=
 ⟨h.os, h.tape, h.output, h.size, fun i hi hs => h.block i hi fun e => hs (hr i e.symm)⟩
theorem Off.ofSetCell {S : Nat → Prop} (a : World) (p : Addr) (v : Value) (hp : S p.block) : Off S a (a.setCell p v) := by
 have h := (Below.refl p.block a).setCell (p := p) (Nat.le_refl _) v
 exact ⟨h.os, h.tape, h.output, h.size, fun k _ hs => Below.heap_setCell a p v k fun e => hs (by rw [e]; exact hp)⟩
theorem off_set (w : World) (p j : Nat) (v : Value) : Off (· = p) w (w.setCell ⟨p, j, none⟩ v) := Off.ofSetCell w ⟨p, j, none⟩ v rfl
theorem Off.below {S : Nat → Prop} {B : Nat} {a b : World} (h : Off S a b) (hB : ∀ k, k < B → ¬ S k) (hle : B ≤ a.heap.size) : Below B a b :=
 ⟨h.os, h.tape, h.output, h.size, fun i hi => h.block i (Nat.lt_of_lt_of_le hi hle) (hB i hi)⟩
theorem Off.toBelow {B : Nat} {w a b : World} (h : Below B w a) {X : Nat → Prop} (ho : Off X a b) (hx : ∀ k, k < B → ¬ X k) (hB : B ≤ w.heap.size) : Below B w b :=
 h.trans (ho.below hx (Nat.le_trans hB h.size))
theorem Off.cell {S : Nat → Prop} {a b : World} (h : Off S a b) {p : Addr} (hp : p.block < a.heap.size) (hs : ¬ S p.block) : b.cell? p = a.cell? p := by
 simp only [World.cell?, h.block p.block hp hs]
theorem Off.at {S : Nat → Prop} {a b : World} (h : Off S a b) {k : Nat} {o : Obj} (hk : a.heap[k]? = some o) (hs : ¬ S k) : b.heap[k]? = some o := by
 rw [h.block k (lt_of_block hk) hs]; exact hk
def mapP (w : World) {κ : Type} (ek : κ → Value) (ok : κ → Prop) (b : Nat) (M : List (κ × Value)) : Prop :=
 ∃ es clock, w.heap[b]? = some (.map es clock) ∧ Stamped es clock ∧ (es.toList.map fun e => (e.key, e.val)).Perm (M.map fun p => (ek p.1, p.2)) ∧ ∀ p ∈ M, ok p.1
section
variable {P : Program} {k : TypeId} {κ : Type} {ek : κ → Value} {ok : κ → Prop} {w : World} {b : Nat} {M : List (κ × Value)}
theorem mapP.lt (h : mapP w ek ok b M) : b < w.heap.size := by obtain ⟨_, _, hb, _⟩ := h; exact lt_of_block hb
theorem mapP.kept {w' : World} (h : mapP w ek ok b M) (hb : w'.heap[b]? = w.heap[b]?) : mapP w' ek ok b M := by
 obtain ⟨es, c, h1, h2⟩ := h; exact ⟨es, c, hb.trans h1, h2⟩
theorem mapP.off {S : Nat → Prop} {w' : World} (h : mapP w ek ok b M) (ho : Off S w w') (hs : ¬ S b) : mapP w' ek ok b M := h.kept (ho.block b h.lt hs)
theorem mapP.below {B : Nat} {w' : World} (h : mapP w ek ok b M) (ho : Below B w w') (hs : b < B) : mapP w' ek ok b M := h.kept (ho.block b hs)
end
section
variable {P : Program} {k e : TypeId} {κ : Type} {ek : κ → Value} {ok : κ → Prop} {w : World} {b : Nat} {M : List (κ × Value)} {ops : Array Oper} {rest : List Oper} {o : Oper} {a : Act} {Q : Exit → Act → World → Prop}
end
end Go.Proofs.Ytgfoeiikocpmdaa.B
