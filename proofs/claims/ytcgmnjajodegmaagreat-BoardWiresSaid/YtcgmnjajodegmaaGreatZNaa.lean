/- Several texts in one: The plain numbers of layer 1 (bits): words, halves, digits, masks, fields: no Go, no program. Small words of all stages: returned values, worlds that grow. -/
import Derived.Laws.BitsAllLaws
import Derived.RowKit
import Derived.Laws.BitsLemmas
import Derived.IntWalk
import Derived.Test.YtcgmnjajodegmaaGreatRows
import Derived.WalkKit
import Derived.WalkLawsBesides
import Derived.Lib.Hide
import Derived.Lib.QuietBelow
import Derived.Laws.ResultCell
import Derived.Deep.QuietTactic
import Derived.BigQuiet
namespace Go.Proofs.YtcgmnjajodegmaaGreat.B
set_option linter.unusedVariables false
set_option linter.unusedSimpArgs false

def lo (a : Int) : Int := a % 4294967296
def hi (a : Int) : Int := a / 4294967296
def join (h l : Int) : Int := h * 4294967296 + l
def addS (a b : Int) : Int := if 18446744073709551615 - b < a then 18446744073709551615 else a + b
def subS (a b : Int) : Int := if a < b then 0 else a - b
def mask (n : Int) : Int := if n < 0 then 0 else if 64 ≤ n then 18446744073709551615 else 2 ^ n.toNat - 1
def signed (n : Int) : Int := if 2147483648 ≤ n then n - 4294967296 else n
/-- 64 to a level. -/
def pw (k : Nat) : Int := 64 ^ k
def dig (n level : Int) : Int := if level < 0 then 0 else if 8 ≤ level then n / pw 8 % 64 else n / pw level.toNat % 64
def withd (n level d : Int) : Int :=
  if level < 0 then n else if 8 ≤ level then n else n / pw (level.toNat + 1) * pw (level.toNat + 1) + d % 64 * pw level.toNat
/-- A digit below 8, the rest at 8. -/
def digr (n : Int) (k : Nat) : Int := if k = 8 then n / pw 8 else n / pw k % 64
def topB (a b : Int) : Nat → Int
  | 0 => -1
  | k + 1 => if digr a k = digr b k then topB a b k else k
def top (a b : Int) : Int := topB a b 9
def bit (n : Int) (i : Nat) : Bool := decide (n / 2 ^ i % 2 = 1)
def firstB (n f : Int) : Nat → Nat → Int
  | 0, _ => -1
  | k + 1, i => if f ≤ (i : Int) ∧ bit n i = true then i else firstB n f k (i + 1)
def first (n f : Int) : Int := firstB n f 64 0
def inw (low width : Int) : Bool := decide (0 ≤ low ∧ low < 32 ∧ 1 ≤ width)
def field (n low width : Int) : Int := if inw low width = true then ((n.toNat / 2 ^ low.toNat % 2 ^ (min width.toNat 32) : Nat) : Int) else 0
/-- The number of so many bits. -/
def ofBits (f : Nat → Bool) : Nat → Nat
  | 0 => 0
  | k + 1 => ofBits f k + if f k = true then 2 ^ k else 0
def putBit (n low width v : Int) (i : Nat) : Bool :=
  if low.toNat ≤ i ∧ i - low.toNat < width.toNat then v.toNat.testBit (i - low.toNat) else n.toNat.testBit i
def put (n low width v : Int) : Int := if inw low width = true then ((ofBits (putBit n low width v) 32 : Nat) : Int) else n

/-! ### bounds -/
theorem lo_nonneg (a : Int) : 0 ≤ lo a := by unfold lo; omega
theorem lo_lt (a : Int) : lo a < 4294967296 := by unfold lo; omega
theorem hi_nonneg {a : Int} (h : 0 ≤ a) : 0 ≤ hi a := by unfold hi; omega
theorem hi_lt {a : Int} (h : a < 18446744073709551616) : hi a < 4294967296 := by unfold hi; omega
theorem join_hi_lo (a : Int) : join (hi a) (lo a) = a := by unfold join hi lo; omega
theorem pw_pos (k : Nat) : 1 ≤ pw k := by
  unfold pw; have : (0 : Int) < 64 ^ k := Int.pow_pos (by decide); omega
theorem pw_succ (k : Nat) : pw (k + 1) = pw k * 64 := by unfold pw; rw [Int.pow_succ]
theorem pw_le {k : Nat} (h : k ≤ 8) : pw k ≤ 281474976710656 := by
  have h2 : ∀ k : Fin 9, pw k.1 ≤ 281474976710656 := by decide
  exact h2 ⟨k, by omega⟩
theorem pw8 : pw 8 = 281474976710656 := by decide
theorem pw_two (k : Nat) : pw k = 2 ^ (6 * k) := by unfold pw; rw [Int.pow_mul]; rfl
theorem dig_nonneg (n l : Int) : 0 ≤ dig n l := by unfold dig; split <;> (try split) <;> omega
theorem dig_lt (n l : Int) : dig n l < 64 := by unfold dig; split <;> (try split) <;> omega
theorem mask_nonneg (n : Int) : 0 ≤ mask n := by
  unfold mask; split; · omega
  split; · omega
  have : (0 : Int) < 2 ^ n.toNat := Int.pow_pos (by decide); omega
theorem two_pow_le {i j : Nat} (h : i ≤ j) : (2 : Int) ^ i ≤ 2 ^ j := by
  have := Nat.pow_le_pow_right (n := 2) (by decide) h
  exact_mod_cast this
theorem mask_le (n : Int) : mask n ≤ 18446744073709551615 := by
  unfold mask; split; · omega
  split; · omega
  have h := two_pow_le (show n.toNat ≤ 63 by omega); have : (2 : Int) ^ 63 = 9223372036854775808 := by decide
  omega

/-! ### bits -/
theorem or_join (h l : Int) (h0 : 0 ≤ h) (h1 : h < 4294967296) (l0 : 0 ≤ l) (l1 : l < 4294967296) : bits BinOp.or IntKind.u64 (h * 4294967296) l = join h l := by
  rw [u64_or _ _ (by omega) (by omega) (by omega) (by omega), nat_join 32 _ _ (by omega) (by omega)]; unfold join; omega
theorem wrap_mask (n : Int) (h0 : 0 ≤ n) (h1 : n ≤ 64) : IntKind.u64.wrap (IntKind.u64.wrap (2 ^ n.toNat) - 1) = mask n := by
  by_cases e : n = 64
  · subst e; decide
  have h := two_pow_le (show n.toNat ≤ 63 by omega)
  have e : (2 : Int) ^ 63 = 9223372036854775808 := by decide
  have p : (0 : Int) < 2 ^ n.toNat := Int.pow_pos (by decide)
  unfold mask; rw [if_neg (by omega), if_neg (by omega), IntKind.wrap_u64, IntKind.wrap_u64]
  omega
theorem wrap_mask_top (n : Int) (h0 : 64 ≤ n) : IntKind.u64.wrap (IntKind.u64.wrap 18446744073709551616 - 1) = mask n := by
  unfold mask; rw [if_neg (by omega), if_pos h0, IntKind.wrap_u64, IntKind.wrap_u64]; decide
theorem and63 (x : Int) (h0 : 0 ≤ x) (h1 : x < 18446744073709551616) : bits BinOp.and IntKind.u64 x 63 = x % 64 := by
  rw [u64_and _ _ h0 h1 (by omega) (by omega)]; show ((x.toNat &&& 63 : Nat) : Int) = _; rw [nat_mask6]; omega
theorem and1 (x : Int) (h0 : 0 ≤ x) (h1 : x < 18446744073709551616) : bits BinOp.and IntKind.u64 x 1 = x % 2 := by
  rw [u64_and _ _ h0 h1 (by omega) (by omega)]; show ((x.toNat &&& 1 : Nat) : Int) = _; rw [nat_mask1]; omega
theorem div_pow_nonneg (n : Int) (i : Nat) (h0 : 0 ≤ n) : 0 ≤ n / 2 ^ i := Int.ediv_nonneg h0 (Int.le_of_lt (Int.pow_pos (by decide)))
theorem div_pow_lt (n : Int) (i : Nat) (h0 : 0 ≤ n) (h1 : n < 18446744073709551616) : n / 2 ^ i < 18446744073709551616 :=
  Int.lt_of_le_of_lt (Int.ediv_le_self _ h0) h1
theorem wrap64_small (x : Int) (h0 : 0 ≤ x) (h1 : x < 64) : Go.RowKit.wrap64 x = x := by unfold Go.RowKit.wrap64; omega
theorem digit_top (n l : Int) (h0 : 0 ≤ n) (h1 : n < 18446744073709551616) (hl : 8 ≤ l) : Go.RowKit.wrap64 (bits BinOp.and IntKind.u64 (n / 281474976710656) 63) = dig n l := by
  rw [and63 _ (by omega) (by omega), wrap64_small _ (by omega) (by omega)]; unfold dig; rw [if_neg (by omega), if_pos hl, pw8]
theorem digit_low (n l : Int) (h0 : 0 ≤ n) (h1 : n < 18446744073709551616) (l0 : 0 ≤ l) (hl : l ≤ 8) : Go.RowKit.wrap64 (bits BinOp.and IntKind.u64 (n / 2 ^ (6 * l).toNat) 63) = dig n l := by
  rw [and63 _ (div_pow_nonneg _ _ h0) (div_pow_lt _ _ h0 h1), wrap64_small _ (by omega) (by omega)]; unfold dig
  rw [if_neg (by omega)]
  have e : (6 * l).toNat = 6 * l.toNat := by omega
  rw [e, ← pw_two]
  split
  · obtain rfl : l = 8 := by omega
    rfl
  · rfl
theorem set_bit (n p : Int) (h0 : 0 ≤ n) (h1 : n < 18446744073709551616) : (bits BinOp.and IntKind.u64 (n / 2 ^ p.toNat) 1 == 1) = bit n p.toNat := by
  rw [and1 _ (div_pow_nonneg _ _ h0) (div_pow_lt _ _ h0 h1)]; rfl
theorem nat_above (n j : Nat) (hn : n < 2 ^ 64) (hj : j ≤ 64) : n &&& (18446744073709551615 - (2 ^ j - 1)) = n / 2 ^ j * 2 ^ j := by
  have hp : 2 ^ j ≤ 2 ^ 64 := Nat.pow_le_pow_right (by decide) hj
  have hp0 : 0 < 2 ^ j := Nat.two_pow_pos j
  have e : 18446744073709551615 - (2 ^ j - 1) = 2 ^ 64 - ((2 ^ j - 1) + 1) := by
    have : (2 : Nat) ^ 64 = 18446744073709551616 := by decide
    omega
  rw [e]
  apply Nat.eq_of_testBit_eq
  intro i
  rw [Nat.testBit_and, Nat.testBit_two_pow_sub_succ (by omega), Nat.testBit_two_pow_sub_one, Nat.mul_comm, Nat.testBit_two_pow_mul, Nat.testBit_div_two_pow]
  by_cases hi : i < j
  · have : ¬ j ≤ i := by omega
    simp [hi, this]
  · have hji : j ≤ i := by omega
    by_cases h64 : i < 64
    · simp [hi, hji, h64, Nat.sub_add_cancel hji]
    · have : n.testBit i = false := Nat.testBit_lt_two_pow (Nat.lt_of_lt_of_le hn (Nat.pow_le_pow_right (by decide) (by omega)))
      simp [this, hji, h64, Nat.sub_add_cancel hji]
theorem cast_two_pow (k : Nat) : ((2 ^ k : Nat) : Int) = 2 ^ k := by push_cast; rfl
theorem above_mask (n : Int) (j : Nat) (h0 : 0 ≤ n) (h1 : n < 18446744073709551616) (hj : j ≤ 63) : bits BinOp.andNot IntKind.u64 n (2 ^ j - 1) = n / 2 ^ j * 2 ^ j := by
  have p : (0 : Int) < 2 ^ j := Int.pow_pos (by decide)
  have q := two_pow_le hj
  have e : (2 : Int) ^ 63 = 9223372036854775808 := by decide
  rw [u64_andNot _ _ h0 h1 (by omega) (by omega)]
  obtain ⟨m, rfl⟩ := Int.eq_ofNat_of_zero_le h0
  have t : ((2 : Int) ^ j - 1).toNat = 2 ^ j - 1 := by
    have := cast_two_pow j; have := Nat.two_pow_pos j; omega
  rw [t, Int.toNat_natCast, nat_above m j (by have : (2 : Nat) ^ 64 = 18446744073709551616 := by decide
                                              omega) (by omega)]
  push_cast; rfl
theorem i64_and63 (d : Int) : bits BinOp.and IntKind.i64 d 63 = d % 64 := by
  have m : (BitVec.ofInt 64 63).toNat = 2 ^ 6 - 1 := by decide
  have key : (BitVec.ofInt 64 d &&& BitVec.ofInt 64 63).toNat = (d % ((2 ^ 64 : Nat) : Int)).toNat % 2 ^ 6 := by
    rw [BitVec.toNat_and, BitVec.toNat_ofInt, m, Nat.and_two_pow_sub_one_eq_mod]
  show IntKind.i64.wrap ((BitVec.ofInt 64 d &&& BitVec.ofInt 64 63).toNat : Nat) = d % 64
  rw [key, IntKind.wrap_i64]
  omega
theorem pw_two' (l : Int) (h : 0 ≤ l) : (2 : Int) ^ (6 * l).toNat = pw l.toNat := by
  rw [pw_two, show (6 * l).toNat = 6 * l.toNat from by omega]
theorem with_code (n l d : Int) (h0 : 0 ≤ n) (h1 : n < 18446744073709551616) (l0 : 0 ≤ l) (l1 : l < 8) :
    bits BinOp.or IntKind.u64 (bits BinOp.andNot IntKind.u64 n (mask (6 * l + 6))) (IntKind.u64.wrap (IntKind.u64.wrap (bits BinOp.and IntKind.i64 d 63) * 2 ^ (6 * l).toNat)) = withd n l d := by
  have em : mask (6 * l + 6) = 2 ^ (6 * (l.toNat + 1)) - 1 := by
    unfold mask; rw [if_neg (by omega), if_neg (by omega), show (6 * l + 6).toNat = 6 * (l.toNat + 1) from by omega]
  have hu := pw_le (show l.toNat ≤ 7 + 1 by omega)
  have hu7 : pw l.toNat ≤ 4398046511104 := by
    have h2 : ∀ k : Fin 8, pw k.1 ≤ 4398046511104 := by decide
    exact h2 ⟨l.toNat, by omega⟩
  have hp := pw_pos l.toNat
  have hs := pw_succ l.toNat
  have hv : pw (l.toNat + 1) ≤ 281474976710656 := pw_le (by omega)
  have hb : 0 ≤ d % 64 * pw l.toNat := Int.mul_nonneg (by omega) (by omega)
  have hc : d % 64 * pw l.toNat < pw (l.toNat + 1) := by
    rw [hs, Int.mul_comm (pw l.toNat)]; exact Int.mul_lt_mul_of_pos_right (by omega) (by omega)
  have hd0 : 0 ≤ n / pw (l.toNat + 1) * pw (l.toNat + 1) := Int.mul_nonneg (Int.ediv_nonneg h0 (by omega)) (by omega)
  have hd1 : n / pw (l.toNat + 1) * pw (l.toNat + 1) ≤ n := Int.ediv_mul_le _ (by omega)
  rw [em, above_mask n _ h0 h1 (by omega), ← pw_two, i64_and63, pw_two' l l0]
  rw [show IntKind.u64.wrap (d % 64) = d % 64 from by rw [IntKind.wrap_u64]; omega, show IntKind.u64.wrap (d % 64 * pw l.toNat) = d % 64 * pw l.toNat from by rw [IntKind.wrap_u64]; omega]
  rw [u64_or _ _ hd0 (by omega) hb (by omega)]
  rw [nat_join (6 * (l.toNat + 1)) _ _ ?_ ?_]
  · unfold withd; rw [if_neg (by omega), if_neg (by omega)]; omega
  · have e2 : (2 : Int) ^ (6 * (l.toNat + 1)) = pw (l.toNat + 1) := (pw_two _).symm
    have e3 := cast_two_pow (6 * (l.toNat + 1))
    have e4 : (n / pw (l.toNat + 1) * pw (l.toNat + 1)) % pw (l.toNat + 1) = 0 := Int.mul_emod_left _ _
    have e5 : (((n / pw (l.toNat + 1) * pw (l.toNat + 1)).toNat % 2 ^ (6 * (l.toNat + 1)) : Nat) : Int) = 0 := by
      rw [Int.natCast_emod, e3, e2, Int.toNat_of_nonneg hd0, e4]
    exact_mod_cast e5
  · have e2 : (2 : Int) ^ (6 * (l.toNat + 1)) = pw (l.toNat + 1) := (pw_two _).symm
    have e3 := cast_two_pow (6 * (l.toNat + 1))
    omega
/-! ### the lowest bit from a place on -/
theorem firstB_step (n f : Int) (k i : Nat) (h : ¬ (f ≤ (i : Int) ∧ bit n i = true)) : firstB n f (k + 1) i = firstB n f k (i + 1) := by
  rw [firstB, if_neg h]
theorem firstB_some (n f : Int) (p : Nat) (hf : f ≤ (p : Int)) (hb : bit n p = true) : ∀ (d i k : Nat), i + d = p → d < k →
    (∀ q : Nat, i ≤ q → f ≤ (q : Int) → q < p → bit n q = false) → firstB n f k i = p := by
  intro d
  induction d with
  | zero =>
    intro i k hi hk _
    obtain rfl : i = p := by omega
    obtain ⟨k', rfl⟩ : ∃ k', k = k' + 1 := ⟨k - 1, by omega⟩
    rw [firstB, if_pos ⟨hf, hb⟩]
  | succ d ih =>
    intro i k hi hk hq
    obtain ⟨k', rfl⟩ : ∃ k', k = k' + 1 := ⟨k - 1, by omega⟩
    rw [firstB_step n f k' i (fun ⟨a, b⟩ => by rw [hq i (Nat.le_refl _) a (by omega)] at b; cases b)]
    exact ih (i + 1) k' (by omega) (by omega) (fun q h1 h2 h3 => hq q (by omega) h2 h3)
theorem firstB_none (n f : Int) : ∀ (k i : Nat), (∀ q : Nat, i ≤ q → f ≤ (q : Int) → q < i + k → bit n q = false) → firstB n f k i = -1 := by
  intro k
  induction k with
  | zero => intro i _; rfl
  | succ k ih =>
    intro i hq
    rw [firstB_step n f k i (fun ⟨a, b⟩ => by rw [hq i (Nat.le_refl _) a (by omega)] at b; cases b)]
    exact ih (i + 1) (fun q h1 h2 h3 => hq q (by omega) h2 (by omega))
/-- No bit from f on below k. -/
def noneTo (n f : Int) (k : Nat) : Prop := ∀ q : Nat, f ≤ (q : Int) → q < k → bit n q = false
theorem noneTo_start (n f : Int) (k : Nat) (h : (k : Int) ≤ f ∨ k = 0) : noneTo n f k := fun q h1 h2 => by omega
theorem noneTo_next (n f : Int) (k : Nat) (h : noneTo n f k) (hb : bit n k = false) : noneTo n f (k + 1) := fun q h1 h2 => by
  by_cases e : q = k
  · subst e; exact hb
  · exact h q h1 (by omega)
theorem first_some (n f : Int) (k : Nat) (h : noneTo n f k) (hf : f ≤ (k : Int)) (hk : k < 64) (hb : bit n k = true) : first n f = k :=
  firstB_some n f k hf hb k 0 64 (by omega) hk (fun q _ h2 h3 => h q h2 h3)
theorem first_none (n f : Int) (k : Nat) (h : noneTo n f k) (hk : 64 ≤ k) : first n f = -1 :=
  firstB_none n f 64 0 (fun q _ h2 h3 => h q h2 (by omega))
theorem dig_digr (n : Int) (k : Nat) (h : k < 8) : dig n (k : Int) = digr n k := by
  unfold dig digr; rw [if_neg (by omega), if_neg (by omega), if_neg (by omega), Int.toNat_natCast]
theorem digr_nonneg (n : Int) (k : Nat) (h0 : 0 ≤ n) : 0 ≤ digr n k := by
  unfold digr; split
  · exact Int.ediv_nonneg h0 (by rw [pw8]; decide)
  · omega
theorem digr_lt (n : Int) (k : Nat) (h1 : n < 18446744073709551616) : digr n k < 65536 := by
  unfold digr; split
  · rw [pw8]; omega
  · omega
/-! ### fields -/
theorem inw_low {low width : Int} (h : inw low width = true) : 0 ≤ low ∧ low < 32 ∧ 1 ≤ width := by unfold inw at h; simpa using h
theorem lo_mask (width : Int) (h : 1 ≤ width) : lo (mask width) = ((2 ^ min width.toNat 32 - 1 : Nat) : Int) := by
  have e32 : (2 : Nat) ^ 32 = 4294967296 := by decide
  unfold lo mask
  rw [if_neg (by omega)]
  split
  · rw [Nat.min_eq_right (by omega), e32]; rfl
  · by_cases c : width.toNat ≤ 32
    · rw [Nat.min_eq_left c]
      have := Nat.pow_le_pow_right (n := 2) (by decide) c
      have := cast_two_pow width.toNat; have := Nat.two_pow_pos width.toNat
      omega
    · rw [Nat.min_eq_right (by omega), e32]
      obtain ⟨d, hd⟩ : ∃ d, width.toNat = 32 + d := ⟨width.toNat - 32, by omega⟩
      rw [hd, Int.pow_add, show (2 : Int) ^ 32 = 4294967296 from by decide]
      have : (0 : Int) < 2 ^ d := Int.pow_pos (by decide)
      generalize (2 : Int) ^ d = q at *
      omega
theorem toNat_div_pow (n : Int) (j : Nat) (h0 : 0 ≤ n) : (n / 2 ^ j).toNat = n.toNat / 2 ^ j := by
  obtain ⟨m, rfl⟩ := Int.eq_ofNat_of_zero_le h0
  have : ((m : Int) / 2 ^ j) = ((m / 2 ^ j : Nat) : Int) := by push_cast; rfl
  rw [this, Int.toNat_natCast, Int.toNat_natCast]
theorem lo_mask_bounds (width : Int) : 0 ≤ lo (mask width) ∧ lo (mask width) < 4294967296 := ⟨lo_nonneg _, lo_lt _⟩
theorem field_code (n low width : Int) (h0 : 0 ≤ n) (h1 : n < 4294967296) (hb : inw low width = true) : bits BinOp.and IntKind.u32 (n / 2 ^ low.toNat) (lo (mask width)) = field n low width := by
  have hw := (inw_low hb).2.2
  have d0 := div_pow_nonneg n low.toNat h0
  have d1 : n / 2 ^ low.toNat ≤ n := Int.ediv_le_self _ h0
  rw [u32_and _ _ d0 (by omega) (lo_nonneg _) (lo_lt _)]
  unfold field
  rw [if_pos hb, lo_mask width hw, Int.toNat_natCast, Nat.and_two_pow_sub_one_eq_mod, toNat_div_pow n _ h0]
theorem ofBits_lt (f : Nat → Bool) (n : Nat) : ofBits f n < 2 ^ n := by
  induction n with
  | zero => simp [ofBits]
  | succ n ih => rw [ofBits, Nat.pow_succ]; split <;> omega
theorem ofBits_testBit (f : Nat → Bool) (n i : Nat) : (ofBits f n).testBit i = (decide (i < n) && f i) := by
  induction n with
  | zero => simp [ofBits]
  | succ n ih =>
    rw [ofBits]
    by_cases hf : f n = true
    · rw [if_pos hf, Nat.add_comm]
      by_cases e : i = n
      · subst e
        rw [Nat.testBit_two_pow_add_eq, ih]; simp [hf]
      · by_cases hlt : i < n
        · rw [Nat.testBit_two_pow_add_gt hlt, ih]; simp [hlt, Nat.lt_succ_of_lt hlt]
        · have : (2 ^ n + ofBits f n).testBit i = false := by
            apply Nat.testBit_lt_two_pow
            have a := ofBits_lt f n
            have b : 2 ^ (n + 1) ≤ 2 ^ i := Nat.pow_le_pow_right (by decide) (by omega)
            rw [Nat.pow_succ] at b; omega
          rw [this]; simp; omega
    · rw [if_neg hf, Nat.add_zero, ih]
      by_cases e : i = n
      · subst e; simp [hf]
      · by_cases hlt : i < n
        · simp [hlt, Nat.lt_succ_of_lt hlt]
        · have : ¬ i < n + 1 := by omega
          simp [hlt, this]
theorem toNat_mul_pow (v : Int) (j : Nat) (h0 : 0 ≤ v) : (v * 2 ^ j % 4294967296).toNat = v.toNat * 2 ^ j % 2 ^ 32 := by
  obtain ⟨m, rfl⟩ := Int.eq_ofNat_of_zero_le h0
  have : ((m : Int) * 2 ^ j % 4294967296) = ((m * 2 ^ j % 2 ^ 32 : Nat) : Int) := by
    rw [Int.natCast_emod, Int.natCast_mul, cast_two_pow, cast_two_pow, show (2 : Int) ^ 32 = 4294967296 from by decide]
  rw [this, Int.toNat_natCast, Int.toNat_natCast]
theorem put_code (n low width v : Int) (h0 : 0 ≤ n) (h1 : n < 4294967296) (v0 : 0 ≤ v) (hb : inw low width = true) :
    bits BinOp.or IntKind.u32 (bits BinOp.andNot IntKind.u32 n (lo (mask width) * 2 ^ low.toNat % 4294967296)) (bits BinOp.and IntKind.u32 (v * 2 ^ low.toNat % 4294967296) (lo (mask width) * 2 ^ low.toNat % 4294967296)) = put n low width v := by
  obtain ⟨l0, l1, hw⟩ := inw_low hb
  have b1 : ∀ x : Int, 0 ≤ x % 4294967296 ∧ x % 4294967296 < 4294967296 := fun x => by omega
  rw [u32_andNot _ _ h0 h1 (b1 _).1 (b1 _).2, u32_and _ _ (b1 _).1 (b1 _).2 (b1 _).1 (b1 _).2]
  rw [toNat_mul_pow _ _ (lo_nonneg _), toNat_mul_pow _ _ v0, lo_mask width hw, Int.toNat_natCast]
  have e32 : (2 : Nat) ^ 32 = 4294967296 := by decide
  have hP : (2 ^ min width.toNat 32 - 1) * 2 ^ low.toNat % 2 ^ 32 < 2 ^ 32 := Nat.mod_lt _ (by decide)
  have ha : n.toNat &&& 4294967295 - (2 ^ min width.toNat 32 - 1) * 2 ^ low.toNat % 2 ^ 32 < 2 ^ 32 := Nat.lt_of_le_of_lt Nat.and_le_left (by omega)
  have hc : v.toNat * 2 ^ low.toNat % 2 ^ 32 &&& (2 ^ min width.toNat 32 - 1) * 2 ^ low.toNat % 2 ^ 32 < 2 ^ 32 := Nat.lt_of_le_of_lt Nat.and_le_left (Nat.mod_lt _ (by decide))
  rw [u32_or_nat _ _ (by omega) (by omega)]
  unfold put
  rw [if_pos hb]
  congr 1
  apply Nat.eq_of_testBit_eq
  intro i
  rw [ofBits_testBit, Nat.testBit_or, Nat.testBit_and, Nat.testBit_and,
    show 4294967295 - (2 ^ min width.toNat 32 - 1) * 2 ^ low.toNat % 2 ^ 32 = 2 ^ 32 - ((2 ^ min width.toNat 32 - 1) * 2 ^ low.toNat % 2 ^ 32 + 1) from by omega,
    Nat.testBit_two_pow_sub_succ hP, Nat.testBit_mod_two_pow, Nat.testBit_mod_two_pow, Nat.mul_comm _ (2 ^ low.toNat), Nat.mul_comm _ (2 ^ low.toNat), Nat.testBit_two_pow_mul, Nat.testBit_two_pow_mul, Nat.testBit_two_pow_sub_one]
  by_cases hi : i < 32
  · by_cases hl : low.toNat ≤ i
    · by_cases hw2 : i - low.toNat < width.toNat
      · have : i - low.toNat < min width.toNat 32 := by omega
        simp [putBit, hi, hl, hw2, this]
      · have : ¬ i - low.toNat < min width.toNat 32 := by omega
        simp [putBit, hi, hl, hw2, this]
    · simp [putBit, hi, hl]
  · simp [hi]
end Go.Proofs.YtcgmnjajodegmaaGreat.B
namespace Go.Proofs.YtcgmnjajodegmaaGreat.B
set_option linter.unusedVariables false
set_option linter.unusedSimpArgs false
open Go.ChangeShapes Go.WideShapes Go.RowKit Go.Sort
theorem ret_int {k : IntKind} {a b : Int} (h : a = b) : Ending.returned (.int k a) = .returned (.int k b) := by rw [h]
theorem ret_bool {a b : Bool} (h : a = b) : Ending.returned (.bool a) = .returned (.bool b) := by rw [h]
theorem int_of {k : IntKind} {a b : Int} (h : a = b) : Value.int k a = Value.int k b := by rw [h]
theorem self_eq (x : Int) : (x == x) = true := beq_self_eq_true x
/-- One step more behind a world that has grown. -/
theorem tr {a b c : World} (h : Below a.heap.size a b) (k : Below b.heap.size b c) : Below a.heap.size a c := h.trans (k.mono h.size)
theorem trA {a b : World} (h : Below a.heap.size a b) (o : Obj) : Below a.heap.size a (b.alloc o) := h.alloc h.size o
theorem trN {a b : World} (h : Below a.heap.size a b) (n : Nat) : Below a.heap.size a (b.drewN n) := h.trans ⟨rfl, rfl, rfl, Nat.le_refl _, fun _ _ => rfl⟩
theorem trD {a b : World} (h : Below a.heap.size a b) : Below a.heap.size a b.drew := h.drew
theorem tr0 (a : World) : Below a.heap.size a a := Below.refl _ _
theorem trG {a b : World} (h : Below a.heap.size a b) (d : Nat) (os : Array Obj) : Below a.heap.size a (grow (redrawn b d) os) := tr h (below_regrown b d os)
/-- Cells and marks of old blocks, behind such a step. -/
theorem bcell {W w1 : World} (hb : Below W.heap.size W w1) : (∀ b o, b < W.heap.size → w1.cell? ⟨b, o, none⟩ = W.cell? ⟨b, o, none⟩) ∧ (∀ b o, b < W.heap.size → w1.frozen? ⟨b, o, none⟩ = W.frozen? ⟨b, o, none⟩) :=
  ⟨fun b o h => hb.cell (p := ⟨b, o, none⟩) h, fun b o h => hb.frozen (p := ⟨b, o, none⟩) h⟩
theorem gcell (W : World) (d : Nat) (os : Array Obj) (b o : Nat) (h : b < W.heap.size) : (grow (redrawn W d) os).cell? ⟨b, o, none⟩ = W.cell? ⟨b, o, none⟩ := (bcell (below_regrown W d os)).1 b o h
theorem gfrozen (W : World) (d : Nat) (os : Array Obj) (b o : Nat) (h : b < W.heap.size) : (grow (redrawn W d) os).frozen? ⟨b, o, none⟩ = W.frozen? ⟨b, o, none⟩ := (bcell (below_regrown W d os)).2 b o h
/-- A block that is known whole: its cells, that it may be written, and what it is behind a store. -/
theorem blk_cell {w : World} {b : Nat} {cs : Array Value} {t : TypeId} (h : w.heap[b]? = some (.cells cs t (0, 0))) (j : Nat) : w.cell? ⟨b, j, none⟩ = cs[j]? := by simp [World.cell?, h]
theorem blk_free {w : World} {b : Nat} {cs : Array Value} {t : TypeId} (h : w.heap[b]? = some (.cells cs t (0, 0))) (j : Nat) : w.frozen? ⟨b, j, none⟩ = false := by simp [World.frozen?, h]
theorem blk_set {w : World} {b : Nat} {cs : Array Value} {t : TypeId} (h : w.heap[b]? = some (.cells cs t (0, 0))) (j : Nat) (v : Value) : (w.setCell ⟨b, j, none⟩ v).heap[b]? = some (.cells (cs.setIfInBounds j v) t (0, 0)) :=
  heap_setCell_same w b j cs t v h
theorem blk_lt {w : World} {b : Nat} {o : Obj} (h : w.heap[b]? = some o) : b < w.heap.size := lt_of_block h
theorem blk_below {B : Nat} {w w' : World} (hb : Below B w w') {b : Nat} {o : Obj} (h : w.heap[b]? = some o) (hl : b < B) : w'.heap[b]? = some o := by rw [hb.block b hl]; exact h
theorem blk_new (w : World) (o : Obj) : (w.alloc o).heap[w.heap.size]? = some o := by show (w.heap.push o)[w.heap.size]? = _; simp
theorem blk_old (w : World) (o : Obj) {b : Nat} (h : b < w.heap.size) : (w.alloc o).heap[b]? = w.heap[b]? := by show (w.heap.push o)[b]? = _; rw [Array.getElem?_push, if_neg (by omega)]
/-- Two, three new blocks. -/
theorem b2_0 (w : World) (a b : Obj) : ((w.alloc a).alloc b).heap[w.heap.size]? = some a := (blk_old _ _ (by simp)).trans (blk_new w _)
theorem b2_1 (w : World) (a b : Obj) : ((w.alloc a).alloc b).heap[w.heap.size + 1]? = some b := by simpa using blk_new (w.alloc a) b
theorem b2_o (w : World) (a b : Obj) {k : Nat} (h : k < w.heap.size) : ((w.alloc a).alloc b).heap[k]? = w.heap[k]? := (blk_old _ _ (by simp; omega)).trans (blk_old w _ h)
theorem b3_0 (w : World) (a b c : Obj) : (((w.alloc a).alloc b).alloc c).heap[w.heap.size]? = some a := (blk_old _ _ (by simp; omega)).trans (b2_0 w a b)
theorem b3_1 (w : World) (a b c : Obj) : (((w.alloc a).alloc b).alloc c).heap[w.heap.size + 1]? = some b := (blk_old _ _ (by simp)).trans (b2_1 w a b)
theorem b3_2 (w : World) (a b c : Obj) : (((w.alloc a).alloc b).alloc c).heap[w.heap.size + 2]? = some c := by simpa using blk_new ((w.alloc a).alloc b) c
theorem b3_o (w : World) (a b c : Obj) {k : Nat} (h : k < w.heap.size) : (((w.alloc a).alloc b).alloc c).heap[k]? = w.heap[k]? := (blk_old _ _ (by simp; omega)).trans (b2_o w a b h)
theorem b2_s (w : World) (a b : Obj) : ((w.alloc a).alloc b).heap.size = w.heap.size + 2 := by simp
theorem b3_s (w : World) (a b c : Obj) : (((w.alloc a).alloc b).alloc c).heap.size = w.heap.size + 3 := by simp
/-- A store elsewhere. -/
theorem blk_else {w : World} {b : Nat} {o : Obj} (h : w.heap[b]? = some o) (k j : Nat) (v : Value) (hne : b ≠ k) : (w.setCell ⟨k, j, none⟩ v).heap[b]? = some o := by
  rw [Below.heap_setCell w ⟨k, j, none⟩ v b hne]; exact h
/-- A statement that is the last of its sequence, as one that is followed by something. -/
theorem wp_asThen {P : Program} {c : Code} {Q : Exit → Act → World → Prop} {a : Act} {w : World} (h : ∀ K : Act → World → Prop, (∀ a w, Q .normal a w → K a w) → c.wp P (Exit.then K Q) a w) : c.wp P Q a w := by
  refine wp_mono (h (Q .normal) fun _ _ q => q) ?_
  intro e a' w' hq
  cases e <;> exact hq
theorem apart_types {w : World} {b c : Nat} {x y : Array Value} {t u : TypeId} {f g : Nat × Nat} (h : w.heap[b]? = some (.cells x t f)) (k : w.heap[c]? = some (.cells y u g)) (hne : (t == u) = false) : b ≠ c := by
  rintro rfl
  rw [h] at k
  cases k
  simp at hne
end Go.Proofs.YtcgmnjajodegmaaGreat.B
