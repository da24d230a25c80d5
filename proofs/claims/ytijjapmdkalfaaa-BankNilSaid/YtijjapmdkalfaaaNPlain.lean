/- Layer 6 (count) in plain numbers: a timer's ticks at once and one by one, what is left, its control word. No Go. -/
import Derived.Test.YtijjapmdkalfaaaLPlain
import Derived.Test.YtijjapmdkalfaaaBPlain2
namespace Go.Proofs.Ytijjapmdkalfaaa.B
set_option linter.unusedVariables false
set_option linter.unusedSimpArgs false
/-- A timer: load, value, enable, reload, irq, prescale, phase, status. -/
structure Tm where
  ld : Int
  v : Int
  en : Bool
  re : Bool
  iq : Bool
  sc : Int
  ph : Int
  st : Bool
structure Tm.ok (t : Tm) : Prop where
  l0 : 0 ≤ t.ld
  l1 : t.ld < 4294967296
  v0 : 0 ≤ t.v
  v1 : t.v < 4294967296
  s0 : 0 ≤ t.sc
  s1 : t.sc < 256
  p0 : 0 ≤ t.ph
  p1 : t.ph ≤ t.sc
/-- The control word. -/
def ctl (en re iq : Bool) (sc : Int) : Int := tk en + 2 * tk re + 4 * tk iq + 256 * sc
theorem tk_bounds (b : Bool) : 0 ≤ tk b ∧ tk b < 2 := by cases b <;> simp [tk]
theorem tk_inj {a b : Bool} (h : tk a = tk b) : a = b := by cases a <;> cases b <;> simp [tk] at h ⊢
theorem tk_one (b : Bool) : (tk b == 1) = b := by cases b <;> rfl
theorem ctl_bounds (en re iq : Bool) (sc : Int) (s0 : 0 ≤ sc) (s1 : sc < 256) : 0 ≤ ctl en re iq sc ∧ ctl en re iq sc < 4294967296 := by
  unfold ctl
  have := tk_bounds en; have := tk_bounds re; have := tk_bounds iq
  omega
theorem ctl_bit0 (en re iq : Bool) (sc : Int) : bit (ctl en re iq sc) 0 = en := by
  unfold bit ctl; rw [show (2 : Int) ^ 0 = 1 from rfl]
  have := tk_bounds re; have := tk_bounds iq
  cases en
  · exact decide_eq_false (by simp only [tk, cond_false]; omega)
  · exact decide_eq_true (by simp only [tk, cond_true]; omega)
theorem ctl_bit1 (en re iq : Bool) (sc : Int) : bit (ctl en re iq sc) 1 = re := by
  unfold bit ctl; rw [show (2 : Int) ^ 1 = 2 from rfl]
  have := tk_bounds en; have := tk_bounds iq
  cases re
  · exact decide_eq_false (by simp only [tk, cond_false] at *; omega)
  · exact decide_eq_true (by simp only [tk, cond_true] at *; omega)
theorem ctl_bit2 (en re iq : Bool) (sc : Int) : bit (ctl en re iq sc) 2 = iq := by
  unfold bit ctl; rw [show (2 : Int) ^ 2 = 4 from rfl]
  have := tk_bounds en; have := tk_bounds re
  cases iq
  · exact decide_eq_false (by simp only [tk, cond_false] at *; omega)
  · exact decide_eq_true (by simp only [tk, cond_true] at *; omega)
theorem ctl_inj {a b c d e f : Bool} {s t : Int} (h : ctl a b c s = ctl d e f t) : a = d ∧ b = e ∧ c = f :=
  ⟨by rw [← ctl_bit0 a b c s, h, ctl_bit0], by rw [← ctl_bit1 a b c s, h, ctl_bit1], by rw [← ctl_bit2 a b c s, h, ctl_bit2]⟩
theorem field_low (n : Int) (n0 : 0 ≤ n) : field n 0 3 = n % 8 := by
  unfold field
  rw [if_pos (by decide), show (0 : Int).toNat = 0 from rfl, show (2 : Nat) ^ min (3 : Int).toNat 32 = 8 by decide, Nat.pow_zero, Nat.div_one]; omega
theorem field_pre (n : Int) (n0 : 0 ≤ n) : field n 8 8 = n / 256 % 256 := by
  unfold field
  rw [if_pos (by decide), show (2 : Nat) ^ (8 : Int).toNat = 256 by decide, show (2 : Nat) ^ min (8 : Int).toNat 32 = 256 by decide]; omega
theorem ctl_field (en re iq : Bool) (sc : Int) (s0 : 0 ≤ sc) (s1 : sc < 256) : field (ctl en re iq sc) 8 8 = sc := by
  rw [field_pre _ (ctl_bounds en re iq sc s0 s1).1]
  unfold ctl
  have := tk_bounds en; have := tk_bounds re; have := tk_bounds iq
  omega
theorem put_nat (n low width v : Int) (m : Nat) (h : inw low width = true) (hm : m < 4294967296) (hb : ∀ i, i < 32 → m.testBit i = putBit n low width v i) : put n low width v = m := by
  unfold put
  rw [if_pos h]
  congr 1
  apply Nat.eq_of_testBit_eq
  intro i
  rw [ofBits_testBit]
  by_cases hi : i < 32
  · rw [decide_eq_true hi, Bool.true_and, hb i hi]
  · rw [decide_eq_false hi, Bool.false_and, Nat.testBit_lt_two_pow (Nat.lt_of_lt_of_le (show m < 2 ^ 32 from hm) (Nat.pow_le_pow_right (by omega) (by omega)))]
theorem put_clear (q e : Nat) (hq : 2 * q + 1 < 4294967296) (he : e < 2) : put ((2 * q + e : Nat) : Int) 0 1 0 = ((2 * q : Nat) : Int) := by
  refine put_nat _ _ _ _ _ (by decide) (by omega) fun i hi => ?_
  unfold putBit
  rw [Int.toNat_natCast, show (0 : Int).toNat = 0 from rfl, show (1 : Int).toNat = 1 from rfl]
  have h1 := Nat.testBit_two_pow_mul_add q (show e < 2 ^ 1 from he) i
  have h2 := Nat.testBit_two_pow_mul_add q (show 0 < 2 ^ 1 by decide) i
  rw [Nat.pow_one] at h1 h2
  rw [Nat.add_zero] at h2
  rw [h1, h2]
  by_cases h0 : i < 1
  · rw [if_pos h0, if_pos (by omega)]; simp
  · rw [if_neg h0, if_neg (by omega), if_neg h0]
theorem ctl_clear (en re iq : Bool) (sc : Int) (s0 : 0 ≤ sc) (s1 : sc < 256) : put (ctl en re iq sc) 0 1 0 = ctl false re iq sc := by
  have h1 := tk_bounds re; have h2 := tk_bounds iq; have h3 := tk_bounds en
  have := put_clear (tk re + 2 * tk iq + 128 * sc).toNat (tk en).toNat (by omega) (by omega)
  unfold ctl
  rw [show tk en + 2 * tk re + 4 * tk iq + 256 * sc = ((2 * (tk re + 2 * tk iq + 128 * sc).toNat + (tk en).toNat : Nat) : Int) by omega, this]
  simp only [tk, cond_false]
  simp only [tk] at h1 h2
  omega
theorem put_pre (x s : Nat) (hx : x < 8) (hs : s < 256) : put (x : Int) 8 8 (s : Int) = ((256 * s + x : Nat) : Int) := by
  refine put_nat _ _ _ _ _ (by decide) (by omega) fun i hi => ?_
  unfold putBit
  rw [Int.toNat_natCast, Int.toNat_natCast, show (8 : Int).toNat = 8 from rfl]
  have h1 := Nat.testBit_two_pow_mul_add s (show x < 2 ^ 8 by omega) i
  rw [show (2 : Nat) ^ 8 = 256 from rfl] at h1
  rw [h1]
  by_cases h0 : i < 8
  · rw [if_pos h0, if_neg (by omega)]
  · rw [if_neg h0]
    by_cases h2 : i - 8 < 8
    · rw [if_pos ⟨by omega, h2⟩]
    · rw [if_neg (by omega), Nat.testBit_lt_two_pow (Nat.lt_of_lt_of_le (show s < 2 ^ 8 from hs) (Nat.pow_le_pow_right (by omega) (by omega))), Nat.testBit_lt_two_pow (Nat.lt_of_lt_of_le (show x < 2 ^ 8 by omega) (Nat.pow_le_pow_right (by omega) (by omega)))]
theorem low_bits (v : Int) (v0 : 0 ≤ v) : v % 8 = tk (bit v 0) + 2 * tk (bit v 1) + 4 * tk (bit v 2) := by
  unfold bit
  rw [show (2 : Int) ^ 0 = 1 from rfl, show (2 : Int) ^ 1 = 2 from rfl, show (2 : Int) ^ 2 = 4 from rfl]
  rw [Int.ediv_one]
  by_cases a : v % 2 = 1 <;> by_cases b : v / 2 % 2 = 1 <;> by_cases c : v / 4 % 2 = 1 <;> simp [a, b, c, tk] <;> omega
/-- What control is behind a store. -/
theorem ctl_put (v : Int) (v0 : 0 ≤ v) (v1 : v < 4294967296) : put (field v 0 3) 8 8 (field v 8 8) = ctl (bit v 0) (bit v 1) (bit v 2) (v / 256 % 256) := by
  rw [field_low v v0, field_pre v v0]
  obtain ⟨x, hx⟩ := Int.eq_ofNat_of_zero_le (show 0 ≤ v % 8 by omega)
  obtain ⟨s, hs⟩ := Int.eq_ofNat_of_zero_le (show 0 ≤ v / 256 % 256 by omega)
  rw [hx, hs, put_pre x s (by omega) (by omega)]
  have := low_bits v v0
  unfold ctl
  omega
theorem status_code (st : Bool) (v : Int) (v0 : 0 ≤ v) (v1 : v < 4294967296) : bits BinOp.andNot IntKind.u32 (tk st) v = tk (st && !bit v 0) := by
  have h1 := tk_bounds st
  have h2 := tk_bounds (st && !bit v 0)
  have hb := andNot_bounds (tk st) v (by omega) (by omega) v0 v1
  refine same_bits hb.1 hb.2 (by omega) (by omega) fun i hi => ?_
  rw [bit_andNot (tk st) v i hi (by omega) (by omega) v0 v1]
  cases st
  · rw [show tk false = 0 from rfl, bit_zero, Bool.false_and, Bool.false_and, show tk false = 0 from rfl, bit_zero]
  · rw [show tk true = 1 from rfl, Bool.true_and]
    by_cases h0 : i = 0
    · subst h0
      rw [show bit 1 0 = true by decide, Bool.true_and]
      cases bit v 0 <;> decide
    · have : bit 1 i = false := by
        rw [bit_testBit 1 i (by omega), show (1 : Int).toNat = 2 ^ 0 from rfl, Nat.testBit_two_pow]; simp; omega
      rw [this, Bool.false_and]
      cases bit v 0
      · exact this.symm
      · exact (bit_zero i).symm
/-- What is left. -/
def lft (v sc ph : Int) : Int := max v 1 * (sc + 1) - ph
def Tm.left (t : Tm) : Int := lft t.v t.sc t.ph
theorem mul_bounds {a b u : Int} (a1 : 1 ≤ a) (ab : a ≤ b) (u1 : 1 ≤ u) : u ≤ a * u ∧ a * u ≤ b * u :=
  ⟨by have := Int.mul_le_mul_of_nonneg_right a1 (show 0 ≤ u by omega); omega, Int.mul_le_mul_of_nonneg_right ab (by omega)⟩
theorem lft_bounds {v sc ph : Int} (v1 : v < 4294967296) (s0 : 0 ≤ sc) (s1 : sc < 256) (p0 : 0 ≤ ph) (p1 : ph ≤ sc) : 1 ≤ lft v sc ph ∧ lft v sc ph ≤ 1099511627520 := by
  unfold lft
  have h := mul_bounds (a := max v 1) (b := 4294967295) (u := sc + 1) (by omega) (by omega) (by omega)
  omega
theorem Tm.ok.left {t : Tm} (h : t.ok) : 1 ≤ t.left ∧ t.left ≤ 1099511627520 := lft_bounds h.v1 h.s0 h.s1 h.p0 h.p1
/-- Behind the next expiry. -/
def Tm.exp (t : Tm) : Tm := if (t.re && t.ld != 0) = true then { t with v := t.ld, ph := 0, st := true } else { t with v := 0, en := false, ph := 0, st := true }
/-- Behind ticks that are fewer than are left. -/
def Tm.lat (t : Tm) (n : Int) : Tm := { t with v := t.v - (t.ph + n) / (t.sc + 1), ph := (t.ph + n) % (t.sc + 1) }
def Tm.tick (t : Tm) (n : Int) : Tm := if t.en = true then (if t.left ≤ n then (if t.exp.en = true then t.exp.lat ((n - t.left) % t.exp.left) else t.exp) else t.lat n) else t
theorem Tm.exp_ok {t : Tm} (h : t.ok) : t.exp.ok := by
  unfold Tm.exp
  split
  · exact ⟨h.l0, h.l1, h.l0, h.l1, h.s0, h.s1, Int.le_refl 0, h.s0⟩
  · exact ⟨h.l0, h.l1, Int.le_refl 0, by show (0 : Int) < 4294967296; omega, h.s0, h.s1, Int.le_refl 0, h.s0⟩
/-- How many steps there are in fewer ticks than are left. -/
theorem steps_bounds {v sc ph n : Int} (v0 : 0 ≤ v) (s0 : 0 ≤ sc) (p0 : 0 ≤ ph) (n0 : 0 ≤ n) (h : n < lft v sc ph) : 0 ≤ (ph + n) / (sc + 1) ∧ (ph + n) / (sc + 1) < max v 1 ∧ (ph + n) / (sc + 1) ≤ v := by
  unfold lft at h
  have h1 : (ph + n) / (sc + 1) < max v 1 := Int.ediv_lt_of_lt_mul (by omega) (by omega)
  have h2 : 0 ≤ (ph + n) / (sc + 1) := Int.ediv_nonneg (by omega) (by omega)
  omega
theorem mod_bounds {a u : Int} (h : 0 < u) : 0 ≤ a % u ∧ a % u < u := ⟨Int.emod_nonneg _ (by omega), Int.emod_lt_of_pos _ h⟩
theorem Tm.lat_ok {t : Tm} (h : t.ok) {n : Int} (n0 : 0 ≤ n) (hn : n < t.left) : (t.lat n).ok := by
  have h1 := steps_bounds h.v0 h.s0 h.p0 n0 hn
  have h2 := mod_bounds (a := t.ph + n) (u := t.sc + 1) (by have := h.s0; omega)
  have := h.v1
  exact ⟨h.l0, h.l1, by show 0 ≤ t.v - (t.ph + n) / (t.sc + 1); omega, by show t.v - (t.ph + n) / (t.sc + 1) < 4294967296; omega, h.s0, h.s1, h2.1, by show (t.ph + n) % (t.sc + 1) ≤ t.sc; omega⟩
theorem Tm.exp_again {t : Tm} (h : t.exp.en = true) (he : t.en = true) : t.exp.exp = t.exp ∧ t.exp.en = true := by
  refine ⟨?_, h⟩
  unfold Tm.exp at h ⊢
  split
  · rfl
  · rename_i hc
    rw [if_neg hc] at h
theorem Tm.tick_off {t : Tm} (h : t.en = false) (n : Int) : t.tick n = t := by unfold Tm.tick; rw [h]; rfl
theorem Tm.tick_lt {t : Tm} (h : t.en = true) {n : Int} (hn : n < t.left) : t.tick n = t.lat n := by unfold Tm.tick; rw [if_pos h, if_neg (by omega)]
/-- Of a timer that an expiry leaves as it is whole rounds may be left out. -/
theorem Tm.tick_mod {t : Tm} (o : t.ok) (h : t.en = true) (hs : t.exp = t) (n : Int) (n0 : 0 ≤ n) : t.tick n = t.tick (n % t.left) := by
  have hl := o.left
  have hm := mod_bounds (a := n) (u := t.left) (by omega)
  rw [Tm.tick_lt h hm.2]
  unfold Tm.tick
  rw [if_pos h]
  by_cases c : t.left ≤ n
  · rw [if_pos c, hs, if_pos h, Int.sub_emod_right]
  · rw [if_neg c, Int.emod_eq_of_lt n0 (by omega)]
theorem Tm.tick_ge {t : Tm} (o : t.ok) (h : t.en = true) {n : Int} (hn : t.left ≤ n) : t.tick n = t.exp.tick (n - t.left) := by
  by_cases c : t.exp.en = true
  · have ha := Tm.exp_again c h
    have oe := Tm.exp_ok o
    have hl := oe.left
    have hm := mod_bounds (a := n - t.left) (u := t.exp.left) (by omega)
    rw [Tm.tick_mod oe c ha.1 (n - t.left) (by omega), Tm.tick_lt c hm.2]
    unfold Tm.tick
    rw [if_pos h, if_pos hn, if_pos c]
  · rw [Tm.tick_off (t := t.exp) (by simpa using c)]
    unfold Tm.tick
    rw [if_pos h, if_pos hn, if_neg c]
theorem Tm.tick_ok {t : Tm} (o : t.ok) {n : Int} (n0 : 0 ≤ n) : (t.tick n).ok := by
  have oe := Tm.exp_ok o
  have hl := oe.left
  unfold Tm.tick
  split
  · split
    · split
      · have hm := mod_bounds (a := n - t.left) (u := t.exp.left) (by omega)
        exact Tm.lat_ok oe hm.1 hm.2
      · exact oe
    · exact Tm.lat_ok o n0 (by omega)
  · exact o
theorem div_add {x b u : Int} (hu : 0 < u) : (x + b) / u = (x % u + b) / u + x / u ∧ (x + b) % u = (x % u + b) % u := by
  have h1 : x + b = (x % u + b) + u * (x / u) := by have := Int.emod_add_mul_ediv x u; omega
  constructor
  · rw [h1, Int.add_mul_ediv_left _ _ (by omega)]
  · rw [h1, Int.add_mul_emod_self_left]
end Go.Proofs.Ytijjapmdkalfaaa.B
