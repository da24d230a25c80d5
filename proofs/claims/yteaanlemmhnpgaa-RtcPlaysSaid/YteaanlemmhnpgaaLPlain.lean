/- The plain numbers of layer 4 (lines): the least place of which something holds; single bits set. No Go. -/
import Derived.Test.YteaanlemmhnpgaaRPlain
namespace Go.Proofs.Yteaanlemmhnpgaa.B
set_option linter.unusedVariables false
set_option linter.unusedSimpArgs false
/-- The least place from i on, of k places; else -1. -/
def lst (f : Nat → Bool) : Nat → Nat → Int
  | 0, _ => -1
  | k + 1, i => if f i = true then (i : Int) else lst f k (i + 1)
def least (f : Nat → Bool) : Int := lst f 32 0
def noneB (f : Nat → Bool) (k : Nat) : Prop := ∀ q, q < k → f q = false
theorem noneB_start (f : Nat → Bool) : noneB f 0 := fun q h => by omega
theorem noneB_next (f : Nat → Bool) (k : Nat) (h : noneB f k) (hf : f k = false) : noneB f (k + 1) := fun q hq => by
  by_cases e : q = k
  · rw [e]; exact hf
  · exact h q (by omega)
theorem lst_some (f : Nat → Bool) (p : Nat) (hp : f p = true) : ∀ d i k, i + d = p → d < k → (∀ q, i ≤ q → q < p → f q = false) → lst f k i = p := by
  intro d
  induction d with
  | zero =>
    intro i k h1 h2 _
    obtain rfl : i = p := by omega
    obtain ⟨j, rfl⟩ : ∃ j, k = j + 1 := ⟨k - 1, by omega⟩
    rw [lst, if_pos hp]
  | succ d ih =>
    intro i k h1 h2 h3
    obtain ⟨j, rfl⟩ : ∃ j, k = j + 1 := ⟨k - 1, by omega⟩
    rw [lst, if_neg (by rw [h3 i (by omega) (by omega)]; simp)]
    exact ih (i + 1) j (by omega) (by omega) fun q h4 h5 => h3 q (by omega) h5
theorem lst_none (f : Nat → Bool) : ∀ k i, (∀ q, i ≤ q → q < i + k → f q = false) → lst f k i = -1 := by
  intro k
  induction k with
  | zero => intro i _; rfl
  | succ k ih =>
    intro i h
    rw [lst, if_neg (by rw [h i (by omega) (by omega)]; simp)]
    exact ih (i + 1) fun q h1 h2 => h q (by omega) (by omega)
theorem least_some (f : Nat → Bool) (k : Nat) (h : noneB f k) (hk : k < 32) (hf : f k = true) : least f = k :=
  lst_some f k hf k 0 32 (by omega) hk fun q _ h2 => h q h2
theorem least_none (f : Nat → Bool) (k : Nat) (h : noneB f k) (hk : 32 ≤ k) : least f = -1 :=
  lst_none f 32 0 fun q _ h2 => h q (by omega)
theorem least_congr (f g : Nat → Bool) (h : ∀ i, i < 32 → f i = g i) : least f = least g := by
  have key : ∀ k i, i + k ≤ 32 → lst f k i = lst g k i := by
    intro k
    induction k with
    | zero => intro i _; rfl
    | succ k ih => intro i hi; rw [lst, lst, h i (by omega), ih (i + 1) (by omega)]
  exact key 32 0 (by omega)
theorem least_bounds (f : Nat → Bool) : -1 ≤ least f ∧ least f < 32 := by
  have key : ∀ k i, i + k ≤ 32 → -1 ≤ lst f k i ∧ lst f k i < 32 := by
    intro k
    induction k with
    | zero => intro i _; rw [lst]; omega
    | succ k ih =>
      intro i hi
      rw [lst]
      split
      · omega
      · exact ih (i + 1) (by omega)
  exact key 32 0 (by omega)
theorem least_yes (f : Nat → Bool) (i : Nat) (hi : i < 32) (h : f i = true) : 0 ≤ least f := by
  have key : ∀ k j, j ≤ i → i < j + k → 0 ≤ lst f k j := by
    intro k
    induction k with
    | zero => intro j h1 h2; omega
    | succ k ih =>
      intro j h1 h2
      rw [lst]
      split
      · omega
      · rename_i hj
        refine ih (j + 1) ?_ (by omega)
        by_cases e : j = i
        · subst e; exact absurd h hj
        · omega
  exact key 32 0 (by omega) (by omega)
theorem least_no (f : Nat → Bool) (h : ∀ i, i < 32 → f i = false) : least f = -1 := lst_none f 32 0 fun q _ h2 => h q (by omega)
/-- High and in the mask. -/
def lm (h m : Int) (i : Nat) : Bool := bit h i && bit m i
theorem lm_both (h m : Int) (h0 : 0 ≤ h) (h1 : h < 4294967296) (m0 : 0 ≤ m) (m1 : m < 4294967296) (i : Nat) : bit (bits BinOp.and IntKind.u32 h m) i = lm h m i := bit_and h m i h0 h1 m0 m1
/-- The output. -/
def outB (h m : Int) : Bool := decide (0 ≤ least (lm h m))
theorem out_code (h m : Int) (h0 : 0 ≤ h) (h1 : h < 4294967296) (m0 : 0 ≤ m) (m1 : m < 4294967296) : (!(h == bits BinOp.andNot IntKind.u32 h m)) = outB h m := by
  have hb := andNot_bounds h m h0 h1 m0 m1
  unfold outB
  by_cases e : ∀ i, i < 32 → lm h m i = false
  · have : h = bits BinOp.andNot IntKind.u32 h m := same_bits h0 h1 hb.1 hb.2 fun i hi => by
      rw [bit_andNot h m i hi h0 h1 m0 m1]
      have := e i hi
      unfold lm at this
      cases hh : bit h i
      · rfl
      · rw [hh] at this; simp at this; rw [this]; rfl
    rw [beq_iff_eq.2 this, least_no _ e]
    rfl
  · have : ¬ h = bits BinOp.andNot IntKind.u32 h m := fun e2 => e fun i hi => by
      have g := bit_andNot h m i hi h0 h1 m0 m1
      rw [← e2] at g
      unfold lm
      cases hh : bit h i
      · rfl
      · rw [hh] at g; simp at g; rw [g]; rfl
    obtain ⟨i, hi⟩ := Classical.not_forall.1 e
    obtain ⟨hi, hl⟩ := Classical.not_imp.1 hi
    rw [beq_eq_false_iff_ne.2 this, decide_eq_true (least_yes _ i hi (by simpa using hl))]
    rfl
theorem toNat_div_two (n : Int) (i : Nat) (h : 0 ≤ n) : ((n.toNat / 2 ^ i % 2 : Nat) : Int) = n / 2 ^ i % 2 := by
  have h1 : n = ((n.toNat : Nat) : Int) := by omega
  have h2 : (2 : Int) ^ i = ((2 ^ i : Nat) : Int) := by push_cast; rfl
  conv => rhs; rw [h1, h2]
  rw [← Int.natCast_ediv]; omega
theorem field_one (n : Int) (k : Nat) (h0 : 0 ≤ n) (hk : k < 32) : (field n (k : Int) 1 == 1) = bit n k := by
  unfold field bit
  rw [if_pos (by unfold inw; simp; omega), Int.toNat_natCast]
  have h : ((n.toNat / 2 ^ k % 2 ^ min (1 : Int).toNat 32 : Nat) : Int) = n / 2 ^ k % 2 := by
    have : min (1 : Int).toNat 32 = 1 := by decide
    rw [this, Nat.pow_one]; exact toNat_div_two n k h0
  rw [h]
  by_cases e : n / 2 ^ k % 2 = 1
  · rw [e]; rfl
  · rw [beq_eq_false_iff_ne.2 e, decide_eq_false e]
/-- A truth as a bit. -/
def tk (b : Bool) : Int := cond b 1 0
/-- One bit put. -/
theorem bit_put_one (n : Int) (k : Nat) (b : Bool) (hk : k < 32) (h0 : 0 ≤ n) (i : Nat) (hi : i < 32) : bit (put n (k : Int) 1 (tk b)) i = if i = k then b else bit n i := by
  unfold put
  rw [if_pos (by unfold inw; simp; omega), bit_ofBits, decide_eq_true hi, Bool.true_and]
  unfold putBit
  rw [Int.toNat_natCast, show (1 : Int).toNat = 1 from rfl]
  by_cases e : i = k
  · subst e
    rw [if_pos (by omega), if_pos rfl, Nat.sub_self]
    cases b <;> rfl
  · rw [if_neg (by omega), if_neg e, bit_testBit n i h0]
/-- All bits turned. -/
def flip (n : Int) : Int := bits BinOp.xor IntKind.u32 IntKind.u32.max n
theorem flip_bounds (n : Int) (n0 : 0 ≤ n) (n1 : n < 4294967296) : 0 ≤ flip n ∧ flip n < 4294967296 := by
  unfold flip
  rw [show IntKind.u32.max = 4294967295 from rfl, u32_xor _ _ (by omega) (by omega) n0 n1]
  have : (4294967295 : Int).toNat ^^^ n.toNat < 2 ^ 32 := Nat.xor_lt_two_pow (by omega) (by omega)
  omega
theorem bit_flip (n : Int) (i : Nat) (hi : i < 32) (n0 : 0 ≤ n) (n1 : n < 4294967296) : bit (flip n) i = !bit n i := by
  unfold flip
  rw [show IntKind.u32.max = 4294967295 from rfl, u32_xor _ _ (by omega) (by omega) n0 n1, bit_testBit _ _ (Int.natCast_nonneg _), Int.toNat_natCast, Nat.testBit_xor, ← bit_testBit n i n0]
  have : (4294967295 : Int).toNat.testBit i = true := by
    rw [show (4294967295 : Int).toNat = 2 ^ 32 - 1 from rfl, Nat.testBit_two_pow_sub_one]; simpa using hi
  rw [this]; simp
end Go.Proofs.Yteaanlemmhnpgaa.B
