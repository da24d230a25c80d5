/- A part of the proof of a law of layer 12: ad. -/
import Derived.Test.YtpojmmgokgamgaaGreatZYac
set_option linter.unusedVariables false
set_option linter.unusedSimpArgs false
set_option maxHeartbeats 12800000
set_option maxRecDepth 100000
namespace Go.Proofs.YtpojmmgokgamgaaGreat.B
open Go.Proofs.Tryz
open Go.ChangeShapes Go.WideShapes Go.RowKit Go.Sort
def lst (f : Nat -> Bool) : Nat -> Nat -> Int
 | 0, _ => -1
 | k + 1, i => if f i = true then (i : Int) else lst f k (i + 1)
def lZ (f : Nat -> Bool) : Int := lst f 32 0
def wC (f : Nat -> Bool) (k : Nat) : Prop := ∀ q, q < k -> f q = false
theorem aAJ (f : Nat -> Bool) : wC f 0 := fun q h => by omega
theorem uG (f : Nat -> Bool) (k : Nat) (h : wC f k) (hf : f k = false) : wC f (k + 1) := fun q hq => by
 by_cases e : q = k
 . rw [e]; exact hf
 . exact h q (by omega)
theorem aGh (f : Nat -> Bool) (p : Nat) (hp : f p = true) : ∀ d i k, i + d = p -> d < k -> (∀ q, i <= q -> q < p -> f q = false) -> lst f k i = p := by
 intro d
 induction d with
 | zero =>
   intro i k h1 h2 _
   obtain rfl : i = p := by omega
   obtain ⟨j, rfl⟩ : ∃ j, k = j + 1 := ⟨k - 1, by omega⟩
   rw [lst, if_pos hp]
 | succ d ih =>
   intro i k h1 h2 h3
   obtain ⟨j, rfl⟩ : ∃ j, k = j + 1 := ⟨k - 1, by omega⟩
   rw [lst, if_neg (by rw [h3 i (by omega) (by omega)]; simp)]
   exact ih (i + 1) j (by omega) (by omega) fun q h4 h5 => h3 q (by omega) h5
theorem aBC (f : Nat -> Bool) : ∀ k i, (∀ q, i <= q -> q < i + k -> f q = false) -> lst f k i = -1 := by
 intro k
 induction k with
 | zero => intro i _; rfl
 | succ k ih =>
   intro i h
   rw [lst, if_neg (by rw [h i (by omega) (by omega)]; simp)]
   exact ih (i + 1) fun q h1 h2 => h q (by omega) (by omega)
theorem aBb (f : Nat -> Bool) (k : Nat) (h : wC f k) (hk : k < 32) (hf : f k = true) : lZ f = k :=
 aGh f k hf k 0 32 (by omega) hk fun q _ h2 => h q h2
theorem aBr (f : Nat -> Bool) (k : Nat) (h : wC f k) (hk : 32 <= k) : lZ f = -1 :=
 aBC f 32 0 fun q _ h2 => h q (by omega)
theorem aAz (f g : Nat -> Bool) (h : ∀ i, i < 32 -> f i = g i) : lZ f = lZ g := by
 have key : ∀ k i, i + k <= 32 -> lst f k i = lst g k i := by
  intro k
  induction k with
  | zero => intro i _; rfl
  | succ k ih => intro i hi; rw [lst, lst, h i (by omega), ih (i + 1) (by omega)]
 exact key 32 0 (by omega)
theorem aEM (f : Nat -> Bool) (i : Nat) (hi : i < 32) (h : f i = true) : 0 <= lZ f := by
 have key : ∀ k j, j <= i -> i < j + k -> 0 <= lst f k j := by
  intro k
  induction k with
  | zero => intro j h1 h2; omega
  | succ k ih =>
    intro j h1 h2
    rw [lst]
    split
    . omega
    . rename_i hj
      refine ih (j + 1) ?_ (by omega)
      by_cases e : j = i
      . subst e; exact absurd h hj
      . omega
 exact key 32 0 (by omega) (by omega)
theorem aGz (f : Nat -> Bool) (h : ∀ i, i < 32 -> f i = false) : lZ f = -1 := aBC f 32 0 fun q _ h2 => h q (by omega)
def lm (h m : Int) (i : Nat) : Bool := aO h i && aO m i
def aHK (h m : Int) : Bool := decide (0 <= lZ (lm h m))
theorem aGv (h m : Int) (h0 : 0 <= h) (h1 : h < 4294967296) (m0 : 0 <= m) (m1 : m < 4294967296) : (!(h == bits BinOp.andNot IntKind.u32 h m)) = aHK h m := by
 have hb := iN h m h0 h1 m0 m1
 unfold aHK
 by_cases e : ∀ i, i < 32 -> lm h m i = false
 . have : h = bits BinOp.andNot IntKind.u32 h m := iG h0 h1 hb.1 hb.2 fun i hi => by
    rw [jS h m i hi h0 h1 m0 m1]
    have := e i hi
    unfold lm at this
    cases hh : aO h i
    . rfl
    . rw [hh] at this; simp at this; rw [this]; rfl
   rw [beq_iff_eq.2 this, aGz _ e]
   rfl
 . have : ¬ h = bits BinOp.andNot IntKind.u32 h m := fun e2 => e fun i hi => by
    have g := jS h m i hi h0 h1 m0 m1
    rw [<- e2] at g
    unfold lm
    cases hh : aO h i
    . rfl
    . rw [hh] at g; simp at g; rw [g]; rfl
   obtain ⟨i, hi⟩ := Classical.not_forall.1 e
   obtain ⟨hi, hl⟩ := Classical.not_imp.1 hi
   rw [beq_eq_false_iff_ne.2 this, decide_eq_true (aEM _ i hi (by simpa using hl))]
   rfl
theorem uP (n : Int) (i : Nat) (h : 0 <= n) : ((n.toNat / 2 ^ i % 2 : Nat) : Int) = n / 2 ^ i % 2 := by
 have h1 : n = ((n.toNat : Nat) : Int) := by omega
 have h2 : (2 : Int) ^ i = ((2 ^ i : Nat) : Int) := by push_cast; rfl
 conv => rhs; rw [h1, h2]
 rw [<- Int.natCast_ediv]; omega
theorem aEQ (n : Int) (k : Nat) (h0 : 0 <= n) (hk : k < 32) : (field n (k : Int) 1 == 1) = aO n k := by
 unfold field aO
 rw [if_pos (by unfold inw; simp; omega), Int.toNat_natCast]
 have h : ((n.toNat / 2 ^ k % 2 ^ min (1 : Int).toNat 32 : Nat) : Int) = n / 2 ^ k % 2 := by
  have : min (1 : Int).toNat 32 = 1 := by decide
  rw [this, Nat.pow_one]; exact uP n k h0
 rw [h]
 by_cases e : n / 2 ^ k % 2 = 1
 . rw [e]; rfl
 . rw [beq_eq_false_iff_ne.2 e, decide_eq_false e]
def tk (b : Bool) : Int := cond b 1 0
theorem mK (n : Int) (k : Nat) (b : Bool) (hk : k < 32) (h0 : 0 <= n) (i : Nat) (hi : i < 32) : aO (put n (k : Int) 1 (tk b)) i = if i = k then b else aO n i := by
 unfold put
 rw [if_pos (by unfold inw; simp; omega), jT, decide_eq_true hi, Bool.true_and]
 unfold jR
 rw [Int.toNat_natCast, show (1 : Int).toNat = 1 from rfl]
 by_cases e : i = k
 . subst e
   rw [if_pos (by omega), if_pos rfl, Nat.sub_self]
   cases b <;> rfl
 . rw [if_neg (by omega), if_neg e, bE n i h0]
theorem pH (n low width : Int) (h0 : 0 <= n) (h1 : n < 4294967296) : 0 <= field n low width /\ field n low width < 4294967296 := by
 unfold field; split
 . have a : n.toNat / 2 ^ low.toNat % 2 ^ min width.toNat 32 <= n.toNat := Nat.le_trans (Nat.mod_le _ _) (Nat.div_le_self _ _)
   omega
 . omega
theorem iF (n low width v : Int) (h0 : 0 <= n) (h1 : n < 4294967296) : 0 <= put n low width v /\ put n low width v < 4294967296 := by
 unfold put; split
 . have := kW (jR n low width v) 32
   have e32 : (2 : Nat) ^ 32 = 4294967296 := by decide
   omega
 . omega
structure Tm where
 ld : Int
 v : Int
 en : Bool
 re : Bool
 iq : Bool
 sc : Int
 ph : Int
 st : Bool
structure Tm.ok (t : Tm) : Prop where
 l0 : 0 <= t.ld
 l1 : t.ld < 4294967296
 v0 : 0 <= t.v
 v1 : t.v < 4294967296
 s0 : 0 <= t.sc
 s1 : t.sc < 256
 p0 : 0 <= t.ph
 p1 : t.ph <= t.sc
def lT (en re iq : Bool) (sc : Int) : Int := tk en + 2 * tk re + 4 * tk iq + 256 * sc
theorem bT (b : Bool) : 0 <= tk b /\ tk b < 2 := by cases b <;> simp [tk]
theorem aKf {a b : Bool} (h : tk a = tk b) : a = b := by cases a <;> cases b <;> simp [tk] at h ⊢
theorem nU (en re iq : Bool) (sc : Int) (s0 : 0 <= sc) (s1 : sc < 256) : 0 <= lT en re iq sc /\ lT en re iq sc < 4294967296 := by
 unfold lT
 have := bT en; have := bT re; have := bT iq
 omega
theorem lU (en re iq : Bool) (sc : Int) : aO (lT en re iq sc) 0 = en := by
 unfold aO lT; rw [show (2 : Int) ^ 0 = 1 from rfl]
 have := bT re; have := bT iq
 cases en
 . exact decide_eq_false (by simp only [tk, cond_false]; omega)
 . exact decide_eq_true (by simp only [tk, cond_true]; omega)
theorem sZ (en re iq : Bool) (sc : Int) : aO (lT en re iq sc) 1 = re := by
 unfold aO lT; rw [show (2 : Int) ^ 1 = 2 from rfl]
 have := bT en; have := bT iq
 cases re
 . exact decide_eq_false (by simp only [tk, cond_false] at *; omega)
 . exact decide_eq_true (by simp only [tk, cond_true] at *; omega)
theorem tZ (en re iq : Bool) (sc : Int) : aO (lT en re iq sc) 2 = iq := by
 unfold aO lT; rw [show (2 : Int) ^ 2 = 4 from rfl]
 have := bT en; have := bT re
 cases iq
 . exact decide_eq_false (by simp only [tk, cond_false] at *; omega)
 . exact decide_eq_true (by simp only [tk, cond_true] at *; omega)
theorem aHq {a b c d e f : Bool} {s t : Int} (h : lT a b c s = lT d e f t) : a = d /\ b = e /\ c = f :=
 ⟨by rw [<- lU a b c s, h, lU], by rw [<- sZ a b c s, h, sZ], by rw [<- tZ a b c s, h, tZ]⟩
theorem aD5 (n : Int) (n0 : 0 <= n) : field n 0 3 = n % 8 := by
 unfold field
 rw [if_pos (by decide), show (0 : Int).toNat = 0 from rfl, show (2 : Nat) ^ min (3 : Int).toNat 32 = 8 by decide, Nat.pow_zero, Nat.div_one]; omega
theorem wW (n : Int) (n0 : 0 <= n) : field n 8 8 = n / 256 % 256 := by
 unfold field
 rw [if_pos (by decide), show (2 : Nat) ^ (8 : Int).toNat = 256 by decide, show (2 : Nat) ^ min (8 : Int).toNat 32 = 256 by decide]; omega
theorem wD (en re iq : Bool) (sc : Int) (s0 : 0 <= sc) (s1 : sc < 256) : field (lT en re iq sc) 8 8 = sc := by
 rw [wW _ (nU en re iq sc s0 s1).1]
 unfold lT
 have := bT en; have := bT re; have := bT iq
 omega
theorem aC0 (n low width v : Int) (m : Nat) (h : inw low width = true) (hm : m < 4294967296) (hb : ∀ i, i < 32 -> m.testBit i = jR n low width v i) : put n low width v = m := by
 unfold put
 rw [if_pos h]
 congr 1
 apply Nat.eq_of_testBit_eq
 intro i
 rw [gQ]
 by_cases hi : i < 32
 . rw [decide_eq_true hi, Bool.true_and, hb i hi]
 . rw [decide_eq_false hi, Bool.false_and, Nat.testBit_lt_two_pow (Nat.lt_of_lt_of_le (show m < 2 ^ 32 from hm) (Nat.pow_le_pow_right (by omega) (by omega)))]
theorem aD2 (q e : Nat) (hq : 2 * q + 1 < 4294967296) (he : e < 2) : put ((2 * q + e : Nat) : Int) 0 1 0 = ((2 * q : Nat) : Int) := by
 refine aC0 _ _ _ _ _ (by decide) (by omega) fun i hi => ?_
 unfold jR
 rw [Int.toNat_natCast, show (0 : Int).toNat = 0 from rfl, show (1 : Int).toNat = 1 from rfl]
 have h1 := Nat.testBit_two_pow_mul_add q (show e < 2 ^ 1 from he) i
 have h2 := Nat.testBit_two_pow_mul_add q (show 0 < 2 ^ 1 by decide) i
 rw [Nat.pow_one] at h1 h2
 rw [Nat.add_zero] at h2
 rw [h1, h2]
 by_cases h0 : i < 1
 . rw [if_pos h0, if_pos (by omega)]; simp
 . rw [if_neg h0, if_neg (by omega), if_neg h0]
theorem aEO (en re iq : Bool) (sc : Int) (s0 : 0 <= sc) (s1 : sc < 256) : put (lT en re iq sc) 0 1 0 = lT false re iq sc := by
 have h1 := bT re; have h2 := bT iq; have h3 := bT en
 have := aD2 (tk re + 2 * tk iq + 128 * sc).toNat (tk en).toNat (by omega) (by omega)
 unfold lT
 rw [show tk en + 2 * tk re + 4 * tk iq + 256 * sc = ((2 * (tk re + 2 * tk iq + 128 * sc).toNat + (tk en).toNat : Nat) : Int) by omega, this]
 simp only [tk, cond_false]
 simp only [tk] at h1 h2
 omega
theorem aIU (x s : Nat) (hx : x < 8) (hs : s < 256) : put (x : Int) 8 8 (s : Int) = ((256 * s + x : Nat) : Int) := by
 refine aC0 _ _ _ _ _ (by decide) (by omega) fun i hi => ?_
 unfold jR
 rw [Int.toNat_natCast, Int.toNat_natCast, show (8 : Int).toNat = 8 from rfl]
 have h1 := Nat.testBit_two_pow_mul_add s (show x < 2 ^ 8 by omega) i
 rw [show (2 : Nat) ^ 8 = 256 from rfl] at h1
 rw [h1]
 by_cases h0 : i < 8
 . rw [if_pos h0, if_neg (by omega)]
 . rw [if_neg h0]
   by_cases h2 : i - 8 < 8
   . rw [if_pos ⟨by omega, h2⟩]
   . rw [if_neg (by omega), Nat.testBit_lt_two_pow (Nat.lt_of_lt_of_le (show s < 2 ^ 8 from hs) (Nat.pow_le_pow_right (by omega) (by omega))), Nat.testBit_lt_two_pow (Nat.lt_of_lt_of_le (show x < 2 ^ 8 by omega) (Nat.pow_le_pow_right (by omega) (by omega)))]
theorem aFM (v : Int) (v0 : 0 <= v) : v % 8 = tk (aO v 0) + 2 * tk (aO v 1) + 4 * tk (aO v 2) := by
 unfold aO
 rw [show (2 : Int) ^ 0 = 1 from rfl, show (2 : Int) ^ 1 = 2 from rfl, show (2 : Int) ^ 2 = 4 from rfl]
 rw [Int.ediv_one]
 by_cases a : v % 2 = 1 <;> by_cases b : v / 2 % 2 = 1 <;> by_cases c : v / 4 % 2 = 1 <;> simp [a, b, c, tk] <;> omega
theorem aI1 (v : Int) (v0 : 0 <= v) (v1 : v < 4294967296) : put (field v 0 3) 8 8 (field v 8 8) = lT (aO v 0) (aO v 1) (aO v 2) (v / 256 % 256) := by
 rw [aD5 v v0, wW v v0]
 obtain ⟨x, hx⟩ := Int.eq_ofNat_of_zero_le (show 0 <= v % 8 by omega)
 obtain ⟨s, hs⟩ := Int.eq_ofNat_of_zero_le (show 0 <= v / 256 % 256 by omega)
 rw [hx, hs, aIU x s (by omega) (by omega)]
 have := aFM v v0
 unfold lT
 omega
theorem aAu (st : Bool) (v : Int) (v0 : 0 <= v) (v1 : v < 4294967296) : bits BinOp.andNot IntKind.u32 (tk st) v = tk (st && !aO v 0) := by
 have h1 := bT st
 have h2 := bT (st && !aO v 0)
 have hb := iN (tk st) v (by omega) (by omega) v0 v1
 refine iG hb.1 hb.2 (by omega) (by omega) fun i hi => ?_
 rw [jS (tk st) v i hi (by omega) (by omega) v0 v1]
 cases st
 . rw [show tk false = 0 from rfl, kP, Bool.false_and, Bool.false_and, show tk false = 0 from rfl, kP]
 . rw [show tk true = 1 from rfl, Bool.true_and]
   by_cases h0 : i = 0
   . subst h0
     rw [show aO 1 0 = true by decide, Bool.true_and]
     cases aO v 0 <;> decide
   . have : aO 1 i = false := by
      rw [bE 1 i (by omega), show (1 : Int).toNat = 2 ^ 0 from rfl, Nat.testBit_two_pow]; simp; omega
     rw [this, Bool.false_and]
     cases aO v 0
     . exact this.symm
     . exact (kP i).symm
def lft (v sc ph : Int) : Int := max v 1 * (sc + 1) - ph
def Tm.left (t : Tm) : Int := lft t.v t.sc t.ph
theorem tN {a b u : Int} (a1 : 1 <= a) (ab : a <= b) (u1 : 1 <= u) : u <= a * u /\ a * u <= b * u :=
 ⟨by have := Int.mul_le_mul_of_nonneg_right a1 (show 0 <= u by omega); omega, Int.mul_le_mul_of_nonneg_right ab (by omega)⟩
theorem uE {v sc ph : Int} (v1 : v < 4294967296) (s0 : 0 <= sc) (s1 : sc < 256) (p0 : 0 <= ph) (p1 : ph <= sc) : 1 <= lft v sc ph /\ lft v sc ph <= 1099511627520 := by
 unfold lft
 have h := tN (a := max v 1) (b := 4294967295) (u := sc + 1) (by omega) (by omega) (by omega)
 omega
theorem Tm.ok.left {t : Tm} (h : t.ok) : 1 <= t.left /\ t.left <= 1099511627520 := uE h.v1 h.s0 h.s1 h.p0 h.p1
def Tm.exp (t : Tm) : Tm := if (t.re && t.ld != 0) = true then { t with v := t.ld, ph := 0, st := true } else { t with v := 0, en := false, ph := 0, st := true }
def Tm.lat (t : Tm) (n : Int) : Tm := { t with v := t.v - (t.ph + n) / (t.sc + 1), ph := (t.ph + n) % (t.sc + 1) }
def Tm.tick (t : Tm) (n : Int) : Tm := if t.en = true then (if t.left <= n then (if t.exp.en = true then t.exp.lat ((n - t.left) % t.exp.left) else t.exp) else t.lat n) else t
theorem Tm.exp_ok {t : Tm} (h : t.ok) : t.exp.ok := by
 unfold Tm.exp
 split
 . exact ⟨h.l0, h.l1, h.l0, h.l1, h.s0, h.s1, Int.le_refl 0, h.s0⟩
 . exact ⟨h.l0, h.l1, Int.le_refl 0, by show (0 : Int) < 4294967296; omega, h.s0, h.s1, Int.le_refl 0, h.s0⟩
theorem lG {v sc ph n : Int} (v0 : 0 <= v) (s0 : 0 <= sc) (p0 : 0 <= ph) (n0 : 0 <= n) (h : n < lft v sc ph) : 0 <= (ph + n) / (sc + 1) /\ (ph + n) / (sc + 1) < max v 1 /\ (ph + n) / (sc + 1) <= v := by
 unfold lft at h
 have h1 : (ph + n) / (sc + 1) < max v 1 := Int.ediv_lt_of_lt_mul (by omega) (by omega)
 have h2 : 0 <= (ph + n) / (sc + 1) := Int.ediv_nonneg (by omega) (by omega)
 omega
theorem eZ {a u : Int} (h : 0 < u) : 0 <= a % u /\ a % u < u := ⟨Int.emod_nonneg _ (by omega), Int.emod_lt_of_pos _ h⟩
theorem Tm.lat_ok {t : Tm} (h : t.ok) {n : Int} (n0 : 0 <= n) (hn : n < t.left) : (t.lat n).ok := by
 have h1 := lG h.v0 h.s0 h.p0 n0 hn
 have h2 := eZ (a := t.ph + n) (u := t.sc + 1) (by have := h.s0; omega)
 have := h.v1
 exact ⟨h.l0, h.l1, by show 0 <= t.v - (t.ph + n) / (t.sc + 1); omega, by show t.v - (t.ph + n) / (t.sc + 1) < 4294967296; omega, h.s0, h.s1, h2.1, by show (t.ph + n) % (t.sc + 1) <= t.sc; omega⟩
theorem Tm.exp_again {t : Tm} (h : t.exp.en = true) (he : t.en = true) : t.exp.exp = t.exp /\ t.exp.en = true := by
 refine ⟨?_, h⟩
 unfold Tm.exp at h ⊢
 split
 . rfl
 . rename_i hc
   rw [if_neg hc] at h
theorem Tm.tick_off {t : Tm} (h : t.en = false) (n : Int) : t.tick n = t := by unfold Tm.tick; rw [h]; rfl
theorem Tm.tick_lt {t : Tm} (h : t.en = true) {n : Int} (hn : n < t.left) : t.tick n = t.lat n := by unfold Tm.tick; rw [if_pos h, if_neg (by omega)]
theorem Tm.tick_mod {t : Tm} (o : t.ok) (h : t.en = true) (hs : t.exp = t) (n : Int) (n0 : 0 <= n) : t.tick n = t.tick (n % t.left) := by
 have hl := o.left
 have hm := eZ (a := n) (u := t.left) (by omega)
 rw [Tm.tick_lt h hm.2]
 unfold Tm.tick
 rw [if_pos h]
 by_cases c : t.left <= n
 . rw [if_pos c, hs, if_pos h, Int.sub_emod_right]
 . rw [if_neg c, Int.emod_eq_of_lt n0 (by omega)]
theorem Tm.tick_ge {t : Tm} (o : t.ok) (h : t.en = true) {n : Int} (hn : t.left <= n) : t.tick n = t.exp.tick (n - t.left) := by
 by_cases c : t.exp.en = true
 . have ha := Tm.exp_again c h
   have oe := Tm.exp_ok o
   have hl := oe.left
   have hm := eZ (a := n - t.left) (u := t.exp.left) (by omega)
   rw [Tm.tick_mod oe c ha.1 (n - t.left) (by omega), Tm.tick_lt c hm.2]
   unfold Tm.tick
   rw [if_pos h, if_pos hn, if_pos c]
 . rw [Tm.tick_off (t := t.exp) (by simpa using c)]
   unfold Tm.tick
   rw [if_pos h, if_pos hn, if_neg c]
theorem Tm.tick_ok {t : Tm} (o : t.ok) {n : Int} (n0 : 0 <= n) : (t.tick n).ok := by
 have oe := Tm.exp_ok o
 have hl := oe.left
 unfold Tm.tick
 split
 . split
   . split
     . have hm := eZ (a := n - t.left) (u := t.exp.left) (by omega)
       exact Tm.lat_ok oe hm.1 hm.2
     . exact oe
   . exact Tm.lat_ok o n0 (by omega)
 . exact o
theorem Tm.lat_zero {t : Tm} (o : t.ok) : t.lat 0 = t := by
 have p0 := o.p0
 have p1 := o.p1
 unfold Tm.lat
 rw [Int.add_zero, Int.ediv_eq_zero_of_lt p0 (by omega), Int.emod_eq_of_lt p0 (by omega), Int.sub_zero]
theorem Tm.tick_zero {t : Tm} (o : t.ok) : t.tick 0 = t := by
 have hl := o.left
 cases he : t.en
 . exact Tm.tick_off he 0
 . rw [Tm.tick_lt he (by omega), Tm.lat_zero o]
def Tm.one (t : Tm) : Tm :=
 if t.en = true then (if t.ph < t.sc then { t with ph := t.ph + 1 } else if 1 < t.v then { t with v := t.v - 1, ph := 0 } else t.exp) else t
theorem Tm.one_exp {t : Tm} (he : t.en = true) : ({ t with v := 1, ph := t.sc } : Tm).one = t.exp := by
 unfold Tm.one
 rw [if_pos he, if_neg (by show ¬ t.sc < t.sc; omega), if_neg (by show ¬ (1 : Int) < 1; omega)]
 rfl
theorem Tm.exp_left {t : Tm} (he : t.exp.en = true) (l0 : 0 <= t.ld) : t.exp.left = t.ld * (t.sc + 1) /\ 1 <= t.ld := by
 unfold Tm.exp at he ⊢
 by_cases c : (t.re && t.ld != 0) = true
 . rw [if_pos c]
   have : t.ld ≠ 0 := by simpa using (by simpa using c : t.re = true /\ ¬ t.ld = 0).2
   refine ⟨?_, by omega⟩
   show max t.ld 1 * (t.sc + 1) - 0 = _
   rw [show max t.ld 1 = t.ld by omega, Int.sub_zero]
 . rw [if_neg c] at he; cases he
theorem aGn (ld v c s ph low width : Int) (w : World) (c0 : 0 <= c) (c1 : c < 4294967296) (w0 : -9223372036854775808 <= width) (w1 : width < 9223372036854775808) :
 Calls prog 231 #[.agg #[.int .u32 ld, .int .u32 v, .int .u32 c, .int .u32 s, .int .u64 ph], .int .i64 low, .int .i64 width] w fun e w' => e = .returned (.int .u32 (field c low width)) /\ Below w.heap.size w w' := by
 go_enter func231, ntmps231
 go_wp2_with fail
 refine (Field _ _ _ _ c0 c1 w0 w1).mono ?_
 rintro e w' ⟨rfl, n, rfl⟩
 go_wp2_with fail
 go_ret
 exact ⟨rfl, tQ (aE (aI w) _) n⟩
theorem rD {P : Prop} (h : P := by
 go_wp2_with fail
 go_ret
 exact ⟨rfl, tr (aE (aI w) _) hb⟩
 ) : P := h
theorem wX (ld v c s ph k : Int) (K : Nat) (w : World) (c0 : 0 <= c) (c1 : c < 4294967296) (hk : k = (K : Int)) (hK : K < 32) :
 Calls prog 214 #[.agg #[.int .u32 ld, .int .u32 v, .int .u32 c, .int .u32 s, .int .u64 ph], .int .i64 k] w fun e w' => e = .returned (.bool (aO c K)) /\ Below w.heap.size w w' := by
 subst hk
 have hq := aEQ c K c0 hK
 go_enter func214, ntmps214
 go_wp2_with fail
 refine (aGn _ _ _ _ _ _ _ _ c0 c1 (by omega) (by omega)).mono ?_
 rintro e w' ⟨rfl, hb⟩
 exact rD
theorem aCs (ld v c s ph sc : Int) (w : World) (c0 : 0 <= c) (c1 : c < 4294967296) (hs : field c 8 8 = sc) (s0 : 0 <= sc) (s1 : sc < 256) :
 Calls prog 232 #[.agg #[.int .u32 ld, .int .u32 v, .int .u32 c, .int .u32 s, .int .u64 ph]] w fun e w' => e = .returned (.int .u64 (sc + 1)) /\ Below w.heap.size w w' := by
 have hf := Hd (fun w => aGn ld v c s ph 8 8 w c0 c1 (by omega) (by omega))
 rw [hs] at hf
 go_enter func232, ntmps232
 go_wp2_with fail
 refine (hf.out _).mono ?_
 rintro e w' ⟨rfl, hb⟩
 exact rD
theorem aON (ld v c s ph sc : Int) (w : World) (v0 : 0 <= v) (v1 : v < 4294967296) (c0 : 0 <= c) (c1 : c < 4294967296) (hs : field c 8 8 = sc) (s0 : 0 <= sc) (s1 : sc < 256) (p0 : 0 <= ph) (p1 : ph <= sc) :
 Calls prog 216 #[.agg #[.int .u32 ld, .int .u32 v, .int .u32 c, .int .u32 s, .int .u64 ph]] w fun e w' => e = .returned (.int .u64 (lft v sc ph)) /\ Below w.heap.size w w' := by
 have hp := Hd (fun w => aCs ld v c s ph sc w c0 c1 hs s0 s1)
 have hb := uE v1 s0 s1 p0 p1
 unfold lft at hb
 have hm : max v 1 < 4294967296 /\ 1 <= max v 1 := by omega
 go_enter func216, ntmps216
 go_upto_region 2 with (fail)
 rw [show (if v < 1 then 1 else v) = max v 1 by split <;> omega]
 have he := Hd (show max v 1 * (sc + 1) - ph = lft v sc ph from rfl)
 generalize max v 1 = M at *
 have hq : 0 <= M * (sc + 1) /\ M * (sc + 1) < 18446744073709551616 := by omega
 have X := aD w (.cells #[.int .u32 ld, .int .u32 v, .int .u32 c, .int .u32 s, .int .u64 ph] 253 (0, 0))
 have hB := aE (aI w) (.cells #[.int .u32 ld, .int .u32 v, .int .u32 c, .int .u32 s, .int .u64 ph] 253 (0, 0))
 have hl := lt_of_block X
 generalize w.alloc (.cells #[.int .u32 ld, .int .u32 v, .int .u32 c, .int .u32 s, .int .u64 ph] 253 (0, 0)) = W at *
 have x0 := aA X 0
 have x1 := aA X 1
 have x2 := aA X 2
 have x3 := aA X 3
 have x4 := aA X 4
 simp only [List.getElem?_toArray, List.getElem?_cons_zero, List.getElem?_cons_succ] at x0 x1 x2 x3 x4
 clear X
 have hg := bI
 refine wp_region_quiet_below (by kernel_rfl) (by kernel_rfl) ?_
 repeat (go_big_quiet_step (first | (go_at_call 232; exact Calls.regrown_of (hp.out _))))
 refine wpQuiet_nil ?_
 intro _ hw'
 obtain ⟨⟨dq, osq⟩, hw''⟩ := hw'
 subst hw''
 go_wp2_with fail
 go_ret
 exact ⟨bH he.out, trG hB _ _⟩
def wl (t : Tm) : List Value := [.int .u32 t.ld, .int .u32 t.v, .int .u32 (lT t.en t.re t.iq t.sc), .int .u32 (tk t.st), .int .u64 t.ph]
theorem Tm.ok.c {t : Tm} (h : t.ok) : 0 <= lT t.en t.re t.iq t.sc /\ lT t.en t.re t.iq t.sc < 4294967296 := nU _ _ _ _ h.s0 h.s1
theorem aKT (t : Tm) (w : World) (h : t.ok) : Calls prog 214 #[.agg (wl t).toArray, .int .i64 0] w fun e w' => e = .returned (.bool t.en) /\ Below w.heap.size w w' := by
 have := wX t.ld t.v (lT t.en t.re t.iq t.sc) (tk t.st) t.ph 0 0 w h.c.1 h.c.2 rfl (by omega)
 rw [lU] at this; exact this
theorem aMJ (t : Tm) (w : World) (h : t.ok) : Calls prog 214 #[.agg (wl t).toArray, .int .i64 2] w fun e w' => e = .returned (.bool t.iq) /\ Below w.heap.size w w' := by
 have := wX t.ld t.v (lT t.en t.re t.iq t.sc) (tk t.st) t.ph 2 2 w h.c.1 h.c.2 rfl (by omega)
 rw [tZ] at this; exact this
theorem aMD (t : Tm) (w : World) (h : t.ok) : Calls prog 216 #[.agg (wl t).toArray] w fun e w' => e = .returned (.int .u64 t.left) /\ Below w.heap.size w w' :=
 aON t.ld t.v (lT t.en t.re t.iq t.sc) (tk t.st) t.ph t.sc w h.v0 h.v1 h.c.1 h.c.2 (wD _ _ _ _ h.s0 h.s1) h.s0 h.s1 h.p0 h.p1
theorem iW : (prog.info? 253).map (·.size) = some 5 := by kernel_rfl
def w5 (ld v c s ph : Int) : List Value := [.int .u32 ld, .int .u32 v, .int .u32 c, .int .u32 s, .int .u64 ph]
def A5 (w : World) (b : Nat) (T : TypeId) (ld v c s ph : Int) : Prop := w.heap[b]? = some (.cells (w5 ld v c s ph).toArray T (0, 0))
section
variable {w w' : World} {b : Nat} {T : TypeId} {ld v c s ph : Int}
theorem A5.lt (h : A5 w b T ld v c s ph) : b < w.heap.size := lt_of_block h
theorem A5.below (h : A5 w b T ld v c s ph) (hb : Below w.heap.size w w') : A5 w' b T ld v c s ph := aC hb h h.lt
theorem A5.free (h : A5 w b T ld v c s ph) (j : Nat) : w.frozen? ⟨b, j, none⟩ = false := aN h j
theorem A5.c0 (h : A5 w b T ld v c s ph) : w.cell? ⟨b, 0, none⟩ = some (.int .u32 ld) := by rw [aA h 0]; rfl
theorem A5.c1 (h : A5 w b T ld v c s ph) : w.cell? ⟨b, 1, none⟩ = some (.int .u32 v) := by rw [aA h 1]; rfl
theorem A5.c2 (h : A5 w b T ld v c s ph) : w.cell? ⟨b, 2, none⟩ = some (.int .u32 c) := by rw [aA h 2]; rfl
theorem A5.c3 (h : A5 w b T ld v c s ph) : w.cell? ⟨b, 3, none⟩ = some (.int .u32 s) := by rw [aA h 3]; rfl
theorem A5.c4 (h : A5 w b T ld v c s ph) : w.cell? ⟨b, 4, none⟩ = some (.int .u64 ph) := by rw [aA h 4]; rfl
theorem A5.s0 (h : A5 w b T ld v c s ph) (x : Int) : A5 (w.setCell ⟨b, 0, none⟩ (.int .u32 x)) b T x v c s ph := by have := aS h 0 (.int .u32 x); simpa [A5, w5] using this
theorem A5.s1 (h : A5 w b T ld v c s ph) (x : Int) : A5 (w.setCell ⟨b, 1, none⟩ (.int .u32 x)) b T ld x c s ph := by have := aS h 1 (.int .u32 x); simpa [A5, w5] using this
theorem A5.s2 (h : A5 w b T ld v c s ph) (x : Int) : A5 (w.setCell ⟨b, 2, none⟩ (.int .u32 x)) b T ld v x s ph := by have := aS h 2 (.int .u32 x); simpa [A5, w5] using this
theorem A5.s3 (h : A5 w b T ld v c s ph) (x : Int) : A5 (w.setCell ⟨b, 3, none⟩ (.int .u32 x)) b T ld v c x ph := by have := aS h 3 (.int .u32 x); simpa [A5, w5] using this
theorem A5.s4 (h : A5 w b T ld v c s ph) (x : Int) : A5 (w.setCell ⟨b, 4, none⟩ (.int .u64 x)) b T ld v c s x := by have := aS h 4 (.int .u64 x); simpa [A5, w5] using this
theorem A5.other (h : A5 w b T ld v c s ph) (k j : Nat) (x : Value) (hne : b ≠ k) : A5 (w.setCell ⟨k, j, none⟩ x) b T ld v c s ph := aW h k j x hne
theorem A5.row {old : Array Value} (h : w.heap[b]? = some (.cells old T (0, 0))) (ld v c s ph : Int) : A5 (w.setRow b (w5 ld v c s ph).toArray) b T ld v c s ph := aT _ h
end
theorem aKR (ld v c s ph : Int) : ∀ x ∈ w5 ld v c s ph, x.oneCell' = true := by
 intro x h
 simp only [w5, List.mem_cons, List.not_mem_nil, or_false] at h
 rcases h with rfl | rfl | rfl | rfl | rfl <;> rfl
section
variable {ops : Array Oper} {rest : List Oper} {o : Oper} {a : Act} {w : World} {Q : Exit -> Act -> World -> Prop}
theorem lV (hgd : o.guard = none) (x : Operand) (ho : o.op = .load 253 x) {b : Nat} {T : TypeId} (hx : a.eval x = .pointer (some ⟨b, 0, none⟩)) {ld v c s ph : Int} (hg : A5 w b T ld v c s ph)
 (h : wpList prog ops Q rest (a.put o.dst (.agg (w5 ld v c s ph).toArray)) w) : wpList prog ops Q (o :: rest) a w :=
 aL hgd _ x ho b 0 hx _ (w5 ld v c s ph) hg underlying253 rfl iW (aM _) h
theorem aGm (x : Operand) (ho : o.op = .load 253 x) (hw : Region.wanted o (yielded ops a.tmps) = true) {b : Nat} {T : TypeId} (hx : a.eval x = .pointer (some ⟨b, 0, none⟩)) {ld v c s ph : Int} (hg : A5 w b T ld v c s ph)
 (h : wpList prog ops Q rest (a.put o.dst (.agg (w5 ld v c s ph).toArray)) w) : wpList prog ops Q (o :: rest) a w :=
 cK _ x ho hw b 0 hx _ (w5 ld v c s ph) hg underlying253 rfl iW (aM _) h
theorem pW (hgd : o.guard = none) (x y : Operand) (ho : o.op = .store 253 x y) {b : Nat} {T : TypeId} (hx : a.eval x = .pointer (some ⟨b, 0, none⟩)) {ld v c s ph : Int} (hy : a.eval y = .agg (w5 ld v c s ph).toArray) {ld' v' c' s' ph' : Int}
 (hg : A5 w b T ld' v' c' s' ph')
 (h : wpList prog ops Q rest (a.put o.dst undef) (w.setRow b (w5 ld v c s ph).toArray)) : wpList prog ops Q (o :: rest) a w := by
 refine aH hgd _ x y ho b 0 hx (w5 ld v c s ph) hy hg iW (by simp [w5]) (aKR _ _ _ _ _) ?_
 rw [aV _ _ (by simp [w5])]
 exact h
theorem aHN {C : World -> Prop} {K : Act -> Prop} (x : Operand) (ho : o.op = .load 253 x) {b : Nat} {T : TypeId} (hx : a.eval x = .pointer (some ⟨b, 0, none⟩)) {ld v c s ph : Int} (hg : ∀ w, C w -> A5 w b T ld v c s ph)
 (h : K (a.put o.dst (.agg (w5 ld v c s ph).toArray))) : o.quiet prog a C K :=
 bD _ x ho b 0 hx _ (w5 ld v c s ph) (fun w hw => hg w hw) underlying253 rfl iW (aM _) h
end
theorem aKF {fn : Func} {p : Tmp} (h : fn.results = #[.cell p 253]) (tmps : Array Value) (w : World) {b : Nat} {T : TypeId} {ld v c s ph : Int} (hp : tmps[p]? = some (.pointer (some ⟨b, 0, none⟩))) (hg : A5 w b T ld v c s ph) :
 (results fn tmps).run prog w = .ok (.agg (w5 ld v c s ph).toArray) w :=
 aU h tmps w b 0 _ (w5 ld v c s ph) hp hg underlying253 rfl iW (aM _)
theorem aA3 : Obj.cells #[.int .u32 0, .int .u32 0, .int .u32 0, .int .u32 0, .int .u64 0] 253 (0, 0) = .cells (w5 0 0 0 0 0).toArray 253 (0, 0) := rfl
end Go.Proofs.YtpojmmgokgamgaaGreat.B
