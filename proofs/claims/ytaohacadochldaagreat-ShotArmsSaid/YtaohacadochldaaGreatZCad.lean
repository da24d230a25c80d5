/- A part of the proof of a law of layer 12: ad. -/
import Derived.Test.YtaohacadochldaaGreatZCac
set_option linter.unusedVariables false
set_option linter.unusedSimpArgs false
set_option maxHeartbeats 12800000
set_option maxRecDepth 100000
namespace Go.Proofs.YtaohacadochldaaGreat.B
open Go.Proofs.Tryz
open Go.ChangeShapes Go.WideShapes Go.RowKit Go.Sort
structure Tm where
 ld : Int
 v : Int
 en : Bool
 re : Bool
 iq : Bool
 sc : Int
 ph : Int
 st : Bool
structure Tm.ok (t : Tm) : Prop where
 l0 : 0 <= t.ld
 l1 : t.ld < 4294967296
 v0 : 0 <= t.v
 v1 : t.v < 4294967296
 s0 : 0 <= t.sc
 s1 : t.sc < 256
 p0 : 0 <= t.ph
 p1 : t.ph <= t.sc
def mK (en re iq : Bool) (sc : Int) : Int := tk en + 2 * tk re + 4 * tk iq + 256 * sc
theorem cA (b : Bool) : 0 <= tk b /\ tk b < 2 := by cases b <;> simp [tk]
theorem aM8 {a b : Bool} (h : tk a = tk b) : a = b := by cases a <;> cases b <;> simp [tk] at h ⊢
theorem oZ (en re iq : Bool) (sc : Int) (s0 : 0 <= sc) (s1 : sc < 256) : 0 <= mK en re iq sc /\ mK en re iq sc < 4294967296 := by
 unfold mK
 have := cA en; have := cA re; have := cA iq
 omega
theorem mT (en re iq : Bool) (sc : Int) : aO (mK en re iq sc) 0 = en := by
 unfold aO mK; rw [show (2 : Int) ^ 0 = 1 from rfl]
 have := cA re; have := cA iq
 cases en
 . exact decide_eq_false (by simp only [tk, cond_false]; omega)
 . exact decide_eq_true (by simp only [tk, cond_true]; omega)
theorem tP (en re iq : Bool) (sc : Int) : aO (mK en re iq sc) 1 = re := by
 unfold aO mK; rw [show (2 : Int) ^ 1 = 2 from rfl]
 have := cA en; have := cA iq
 cases re
 . exact decide_eq_false (by simp only [tk, cond_false] at *; omega)
 . exact decide_eq_true (by simp only [tk, cond_true] at *; omega)
theorem tQ (en re iq : Bool) (sc : Int) : aO (mK en re iq sc) 2 = iq := by
 unfold aO mK; rw [show (2 : Int) ^ 2 = 4 from rfl]
 have := cA en; have := cA re
 cases iq
 . exact decide_eq_false (by simp only [tk, cond_false] at *; omega)
 . exact decide_eq_true (by simp only [tk, cond_true] at *; omega)
theorem aIQ {a b c d e f : Bool} {s t : Int} (h : mK a b c s = mK d e f t) : a = d /\ b = e /\ c = f :=
 ⟨by rw [<- mT a b c s, h, mT], by rw [<- tP a b c s, h, tP], by rw [<- tQ a b c s, h, tQ]⟩
theorem aER (n : Int) (n0 : 0 <= n) : field n 0 3 = n % 8 := by
 unfold field
 rw [if_pos (by decide), show (0 : Int).toNat = 0 from rfl, show (2 : Nat) ^ min (3 : Int).toNat 32 = 8 by decide, Nat.pow_zero, Nat.div_one]; omega
theorem xY (n : Int) (n0 : 0 <= n) : field n 8 8 = n / 256 % 256 := by
 unfold field
 rw [if_pos (by decide), show (2 : Nat) ^ (8 : Int).toNat = 256 by decide, show (2 : Nat) ^ min (8 : Int).toNat 32 = 256 by decide]; omega
theorem xX (en re iq : Bool) (sc : Int) (s0 : 0 <= sc) (s1 : sc < 256) : field (mK en re iq sc) 8 8 = sc := by
 rw [xY _ (oZ en re iq sc s0 s1).1]
 unfold mK
 have := cA en; have := cA re; have := cA iq
 omega
theorem aDt (n low width v : Int) (m : Nat) (h : inw low width = true) (hm : m < 4294967296) (hb : ∀ i, i < 32 -> m.testBit i = kH n low width v i) : put n low width v = m := by
 unfold put
 rw [if_pos h]
 congr 1
 apply Nat.eq_of_testBit_eq
 intro i
 rw [iL]
 by_cases hi : i < 32
 . rw [decide_eq_true hi, Bool.true_and, hb i hi]
 . rw [decide_eq_false hi, Bool.false_and, Nat.testBit_lt_two_pow (Nat.lt_of_lt_of_le (show m < 2 ^ 32 from hm) (Nat.pow_le_pow_right (by omega) (by omega)))]
theorem aEq (q e : Nat) (hq : 2 * q + 1 < 4294967296) (he : e < 2) : put ((2 * q + e : Nat) : Int) 0 1 0 = ((2 * q : Nat) : Int) := by
 refine aDt _ _ _ _ _ (by decide) (by omega) fun i hi => ?_
 unfold kH
 rw [Int.toNat_natCast, show (0 : Int).toNat = 0 from rfl, show (1 : Int).toNat = 1 from rfl]
 have h1 := Nat.testBit_two_pow_mul_add q (show e < 2 ^ 1 from he) i
 have h2 := Nat.testBit_two_pow_mul_add q (show 0 < 2 ^ 1 by decide) i
 rw [Nat.pow_one] at h1 h2
 rw [Nat.add_zero] at h2
 rw [h1, h2]
 by_cases h0 : i < 1
 . rw [if_pos h0, if_pos (by omega)]; simp
 . rw [if_neg h0, if_neg (by omega), if_neg h0]
theorem aEP (en re iq : Bool) (sc : Int) (s0 : 0 <= sc) (s1 : sc < 256) : put (mK en re iq sc) 0 1 0 = mK false re iq sc := by
 have h1 := cA re; have h2 := cA iq; have h3 := cA en
 have := aEq (tk re + 2 * tk iq + 128 * sc).toNat (tk en).toNat (by omega) (by omega)
 unfold mK
 rw [show tk en + 2 * tk re + 4 * tk iq + 256 * sc = ((2 * (tk re + 2 * tk iq + 128 * sc).toNat + (tk en).toNat : Nat) : Int) by omega, this]
 simp only [tk, cond_false]
 simp only [tk] at h1 h2
 omega
theorem aI2 (x s : Nat) (hx : x < 8) (hs : s < 256) : put (x : Int) 8 8 (s : Int) = ((256 * s + x : Nat) : Int) := by
 refine aDt _ _ _ _ _ (by decide) (by omega) fun i hi => ?_
 unfold kH
 rw [Int.toNat_natCast, Int.toNat_natCast, show (8 : Int).toNat = 8 from rfl]
 have h1 := Nat.testBit_two_pow_mul_add s (show x < 2 ^ 8 by omega) i
 rw [show (2 : Nat) ^ 8 = 256 from rfl] at h1
 rw [h1]
 by_cases h0 : i < 8
 . rw [if_pos h0, if_neg (by omega)]
 . rw [if_neg h0]
   by_cases h2 : i - 8 < 8
   . rw [if_pos ⟨by omega, h2⟩]
   . rw [if_neg (by omega), Nat.testBit_lt_two_pow (Nat.lt_of_lt_of_le (show s < 2 ^ 8 from hs) (Nat.pow_le_pow_right (by omega) (by omega))), Nat.testBit_lt_two_pow (Nat.lt_of_lt_of_le (show x < 2 ^ 8 by omega) (Nat.pow_le_pow_right (by omega) (by omega)))]
theorem aGd (v : Int) (v0 : 0 <= v) : v % 8 = tk (aO v 0) + 2 * tk (aO v 1) + 4 * tk (aO v 2) := by
 unfold aO
 rw [show (2 : Int) ^ 0 = 1 from rfl, show (2 : Int) ^ 1 = 2 from rfl, show (2 : Int) ^ 2 = 4 from rfl]
 rw [Int.ediv_one]
 by_cases a : v % 2 = 1 <;> by_cases b : v / 2 % 2 = 1 <;> by_cases c : v / 4 % 2 = 1 <;> simp [a, b, c, tk] <;> omega
theorem aIR (v : Int) (v0 : 0 <= v) (v1 : v < 4294967296) : put (field v 0 3) 8 8 (field v 8 8) = mK (aO v 0) (aO v 1) (aO v 2) (v / 256 % 256) := by
 rw [aER v v0, xY v v0]
 obtain ⟨x, hx⟩ := Int.eq_ofNat_of_zero_le (show 0 <= v % 8 by omega)
 obtain ⟨s, hs⟩ := Int.eq_ofNat_of_zero_le (show 0 <= v / 256 % 256 by omega)
 rw [hx, hs, aI2 x s (by omega) (by omega)]
 have := aGd v v0
 unfold mK
 omega
theorem aBh (st : Bool) (v : Int) (v0 : 0 <= v) (v1 : v < 4294967296) : bits BinOp.andNot IntKind.u32 (tk st) v = tk (st && !aO v 0) := by
 have h1 := cA st
 have h2 := cA (st && !aO v 0)
 have hb := jC (tk st) v (by omega) (by omega) v0 v1
 refine jA hb.1 hb.2 (by omega) (by omega) fun i hi => ?_
 rw [kD (tk st) v i hi (by omega) (by omega) v0 v1]
 cases st
 . rw [show tk false = 0 from rfl, kY, Bool.false_and, Bool.false_and, show tk false = 0 from rfl, kY]
 . rw [show tk true = 1 from rfl, Bool.true_and]
   by_cases h0 : i = 0
   . subst h0
     rw [show aO 1 0 = true by decide, Bool.true_and]
     cases aO v 0 <;> decide
   . have : aO 1 i = false := by
      rw [bG 1 i (by omega), show (1 : Int).toNat = 2 ^ 0 from rfl, Nat.testBit_two_pow]; simp; omega
     rw [this, Bool.false_and]
     cases aO v 0
     . exact this.symm
     . exact (kY i).symm
def lft (v sc ph : Int) : Int := max v 1 * (sc + 1) - ph
def Tm.left (t : Tm) : Int := lft t.v t.sc t.ph
theorem uO {a b u : Int} (a1 : 1 <= a) (ab : a <= b) (u1 : 1 <= u) : u <= a * u /\ a * u <= b * u :=
 ⟨by have := Int.mul_le_mul_of_nonneg_right a1 (show 0 <= u by omega); omega, Int.mul_le_mul_of_nonneg_right ab (by omega)⟩
theorem uJ {v sc ph : Int} (v1 : v < 4294967296) (s0 : 0 <= sc) (s1 : sc < 256) (p0 : 0 <= ph) (p1 : ph <= sc) : 1 <= lft v sc ph /\ lft v sc ph <= 1099511627520 := by
 unfold lft
 have h := uO (a := max v 1) (b := 4294967295) (u := sc + 1) (by omega) (by omega) (by omega)
 omega
theorem Tm.ok.left {t : Tm} (h : t.ok) : 1 <= t.left /\ t.left <= 1099511627520 := uJ h.v1 h.s0 h.s1 h.p0 h.p1
def Tm.exp (t : Tm) : Tm := if (t.re && t.ld != 0) = true then { t with v := t.ld, ph := 0, st := true } else { t with v := 0, en := false, ph := 0, st := true }
def Tm.lat (t : Tm) (n : Int) : Tm := { t with v := t.v - (t.ph + n) / (t.sc + 1), ph := (t.ph + n) % (t.sc + 1) }
def Tm.tick (t : Tm) (n : Int) : Tm := if t.en = true then (if t.left <= n then (if t.exp.en = true then t.exp.lat ((n - t.left) % t.exp.left) else t.exp) else t.lat n) else t
theorem Tm.exp_ok {t : Tm} (h : t.ok) : t.exp.ok := by
 unfold Tm.exp
 split
 . exact ⟨h.l0, h.l1, h.l0, h.l1, h.s0, h.s1, Int.le_refl 0, h.s0⟩
 . exact ⟨h.l0, h.l1, Int.le_refl 0, by show (0 : Int) < 4294967296; omega, h.s0, h.s1, Int.le_refl 0, h.s0⟩
theorem lZ {v sc ph n : Int} (v0 : 0 <= v) (s0 : 0 <= sc) (p0 : 0 <= ph) (n0 : 0 <= n) (h : n < lft v sc ph) : 0 <= (ph + n) / (sc + 1) /\ (ph + n) / (sc + 1) < max v 1 /\ (ph + n) / (sc + 1) <= v := by
 unfold lft at h
 have h1 : (ph + n) / (sc + 1) < max v 1 := Int.ediv_lt_of_lt_mul (by omega) (by omega)
 have h2 : 0 <= (ph + n) / (sc + 1) := Int.ediv_nonneg (by omega) (by omega)
 omega
theorem fU {a u : Int} (h : 0 < u) : 0 <= a % u /\ a % u < u := ⟨Int.emod_nonneg _ (by omega), Int.emod_lt_of_pos _ h⟩
theorem Tm.lat_ok {t : Tm} (h : t.ok) {n : Int} (n0 : 0 <= n) (hn : n < t.left) : (t.lat n).ok := by
 have h1 := lZ h.v0 h.s0 h.p0 n0 hn
 have h2 := fU (a := t.ph + n) (u := t.sc + 1) (by have := h.s0; omega)
 have := h.v1
 exact ⟨h.l0, h.l1, by show 0 <= t.v - (t.ph + n) / (t.sc + 1); omega, by show t.v - (t.ph + n) / (t.sc + 1) < 4294967296; omega, h.s0, h.s1, h2.1, by show (t.ph + n) % (t.sc + 1) <= t.sc; omega⟩
theorem Tm.exp_again {t : Tm} (h : t.exp.en = true) (he : t.en = true) : t.exp.exp = t.exp /\ t.exp.en = true := by
 refine ⟨?_, h⟩
 unfold Tm.exp at h ⊢
 split
 . rfl
 . rename_i hc
   rw [if_neg hc] at h
theorem Tm.tick_off {t : Tm} (h : t.en = false) (n : Int) : t.tick n = t := by unfold Tm.tick; rw [h]; rfl
theorem Tm.tick_lt {t : Tm} (h : t.en = true) {n : Int} (hn : n < t.left) : t.tick n = t.lat n := by unfold Tm.tick; rw [if_pos h, if_neg (by omega)]
theorem Tm.tick_mod {t : Tm} (o : t.ok) (h : t.en = true) (hs : t.exp = t) (n : Int) (n0 : 0 <= n) : t.tick n = t.tick (n % t.left) := by
 have hl := o.left
 have hm := fU (a := n) (u := t.left) (by omega)
 rw [Tm.tick_lt h hm.2]
 unfold Tm.tick
 rw [if_pos h]
 by_cases c : t.left <= n
 . rw [if_pos c, hs, if_pos h, Int.sub_emod_right]
 . rw [if_neg c, Int.emod_eq_of_lt n0 (by omega)]
theorem Tm.tick_ge {t : Tm} (o : t.ok) (h : t.en = true) {n : Int} (hn : t.left <= n) : t.tick n = t.exp.tick (n - t.left) := by
 by_cases c : t.exp.en = true
 . have ha := Tm.exp_again c h
   have oe := Tm.exp_ok o
   have hl := oe.left
   have hm := fU (a := n - t.left) (u := t.exp.left) (by omega)
   rw [Tm.tick_mod oe c ha.1 (n - t.left) (by omega), Tm.tick_lt c hm.2]
   unfold Tm.tick
   rw [if_pos h, if_pos hn, if_pos c]
 . rw [Tm.tick_off (t := t.exp) (by simpa using c)]
   unfold Tm.tick
   rw [if_pos h, if_pos hn, if_neg c]
theorem Tm.tick_ok {t : Tm} (o : t.ok) {n : Int} (n0 : 0 <= n) : (t.tick n).ok := by
 have oe := Tm.exp_ok o
 have hl := oe.left
 unfold Tm.tick
 split
 . split
   . split
     . have hm := fU (a := n - t.left) (u := t.exp.left) (by omega)
       exact Tm.lat_ok oe hm.1 hm.2
     . exact oe
   . exact Tm.lat_ok o n0 (by omega)
 . exact o
theorem Tm.lat_zero {t : Tm} (o : t.ok) : t.lat 0 = t := by
 have p0 := o.p0
 have p1 := o.p1
 unfold Tm.lat
 rw [Int.add_zero, Int.ediv_eq_zero_of_lt p0 (by omega), Int.emod_eq_of_lt p0 (by omega), Int.sub_zero]
theorem Tm.tick_zero {t : Tm} (o : t.ok) : t.tick 0 = t := by
 have hl := o.left
 cases he : t.en
 . exact Tm.tick_off he 0
 . rw [Tm.tick_lt he (by omega), Tm.lat_zero o]
def Tm.one (t : Tm) : Tm :=
 if t.en = true then (if t.ph < t.sc then { t with ph := t.ph + 1 } else if 1 < t.v then { t with v := t.v - 1, ph := 0 } else t.exp) else t
theorem Tm.one_exp {t : Tm} (he : t.en = true) : ({ t with v := 1, ph := t.sc } : Tm).one = t.exp := by
 unfold Tm.one
 rw [if_pos he, if_neg (by show ¬ t.sc < t.sc; omega), if_neg (by show ¬ (1 : Int) < 1; omega)]
 rfl
theorem Tm.exp_left {t : Tm} (he : t.exp.en = true) (l0 : 0 <= t.ld) : t.exp.left = t.ld * (t.sc + 1) /\ 1 <= t.ld := by
 unfold Tm.exp at he ⊢
 by_cases c : (t.re && t.ld != 0) = true
 . rw [if_pos c]
   have : t.ld ≠ 0 := by simpa using (by simpa using c : t.re = true /\ ¬ t.ld = 0).2
   refine ⟨?_, by omega⟩
   show max t.ld 1 * (t.sc + 1) - 0 = _
   rw [show max t.ld 1 = t.ld by omega, Int.sub_zero]
 . rw [if_neg c] at he; cases he
theorem aGl (ld v c s ph low width : Int) (w : World) (c0 : 0 <= c) (c1 : c < 4294967296) (w0 : -9223372036854775808 <= width) (w1 : width < 9223372036854775808) :
 Calls prog 234 #[.agg #[.int .u32 ld, .int .u32 v, .int .u32 c, .int .u32 s, .int .u64 ph], .int .i64 low, .int .i64 width] w fun e w' => e = .returned (.int .u32 (field c low width)) /\ Below w.heap.size w w' := by
 go_enter func234, ntmps234
 go_wp2_with fail
 refine (Field _ _ _ _ c0 c1 w0 w1).mono ?_
 rintro e w' ⟨rfl, n, rfl⟩
 go_wp2_with fail
 go_ret
 exact ⟨rfl, vG (aE (aH w) _) n⟩
theorem rM {P : Prop} (h : P := by
 go_wp2_with fail
 go_ret
 exact ⟨rfl, tr (aE (aH w) _) hb⟩
 ) : P := h
theorem yK (ld v c s ph k : Int) (K : Nat) (w : World) (c0 : 0 <= c) (c1 : c < 4294967296) (hk : k = (K : Int)) (hK : K < 32) :
 Calls prog 224 #[.agg #[.int .u32 ld, .int .u32 v, .int .u32 c, .int .u32 s, .int .u64 ph], .int .i64 k] w fun e w' => e = .returned (.bool (aO c K)) /\ Below w.heap.size w w' := by
 subst hk
 have hq := aES c K c0 hK
 go_enter func224, ntmps224
 go_wp2_with fail
 refine (aGl _ _ _ _ _ _ _ _ c0 c1 (by omega) (by omega)).mono ?_
 rintro e w' ⟨rfl, hb⟩
 exact rM
theorem aDo (ld v c s ph sc : Int) (w : World) (c0 : 0 <= c) (c1 : c < 4294967296) (hs : field c 8 8 = sc) (s0 : 0 <= sc) (s1 : sc < 256) :
 Calls prog 235 #[.agg #[.int .u32 ld, .int .u32 v, .int .u32 c, .int .u32 s, .int .u64 ph]] w fun e w' => e = .returned (.int .u64 (sc + 1)) /\ Below w.heap.size w w' := by
 have hf := Hd (fun w => aGl ld v c s ph 8 8 w c0 c1 (by omega) (by omega))
 rw [hs] at hf
 go_enter func235, ntmps235
 go_wp2_with fail
 refine (hf.out _).mono ?_
 rintro e w' ⟨rfl, hb⟩
 exact rM
theorem aOW (ld v c s ph sc : Int) (w : World) (v0 : 0 <= v) (v1 : v < 4294967296) (c0 : 0 <= c) (c1 : c < 4294967296) (hs : field c 8 8 = sc) (s0 : 0 <= sc) (s1 : sc < 256) (p0 : 0 <= ph) (p1 : ph <= sc) :
 Calls prog 227 #[.agg #[.int .u32 ld, .int .u32 v, .int .u32 c, .int .u32 s, .int .u64 ph]] w fun e w' => e = .returned (.int .u64 (lft v sc ph)) /\ Below w.heap.size w w' := by
 have hp := Hd (fun w => aDo ld v c s ph sc w c0 c1 hs s0 s1)
 have hb := uJ v1 s0 s1 p0 p1
 unfold lft at hb
 have hm : max v 1 < 4294967296 /\ 1 <= max v 1 := by omega
 go_enter func227, ntmps227
 go_upto_region 2 with (fail)
 rw [show (if v < 1 then 1 else v) = max v 1 by split <;> omega]
 have he := Hd (show max v 1 * (sc + 1) - ph = lft v sc ph from rfl)
 generalize max v 1 = M at *
 have hq : 0 <= M * (sc + 1) /\ M * (sc + 1) < 18446744073709551616 := by omega
 have X := aD w (.cells #[.int .u32 ld, .int .u32 v, .int .u32 c, .int .u32 s, .int .u64 ph] 298 (0, 0))
 have hB := aE (aH w) (.cells #[.int .u32 ld, .int .u32 v, .int .u32 c, .int .u32 s, .int .u64 ph] 298 (0, 0))
 have hl := lt_of_block X
 generalize w.alloc (.cells #[.int .u32 ld, .int .u32 v, .int .u32 c, .int .u32 s, .int .u64 ph] 298 (0, 0)) = W at *
 have x0 := aA X 0
 have x1 := aA X 1
 have x2 := aA X 2
 have x3 := aA X 3
 have x4 := aA X 4
 simp only [List.getElem?_toArray, List.getElem?_cons_zero, List.getElem?_cons_succ] at x0 x1 x2 x3 x4
 clear X
 have hg := bC
 refine wp_region_quiet_below (by kernel_rfl) (by kernel_rfl) ?_
 repeat (go_big_quiet_step (first | (go_at_call 235; exact Calls.regrown_of (hp.out _))))
 refine wpQuiet_nil ?_
 intro _ hw'
 obtain ⟨⟨dq, osq⟩, hw''⟩ := hw'
 subst hw''
 go_wp2_with fail
 go_ret
 exact ⟨bJ he.out, trG hB _ _⟩
def wl (t : Tm) : List Value := [.int .u32 t.ld, .int .u32 t.v, .int .u32 (mK t.en t.re t.iq t.sc), .int .u32 (tk t.st), .int .u64 t.ph]
theorem Tm.ok.c {t : Tm} (h : t.ok) : 0 <= mK t.en t.re t.iq t.sc /\ mK t.en t.re t.iq t.sc < 4294967296 := oZ _ _ _ _ h.s0 h.s1
theorem aMH (t : Tm) (w : World) (h : t.ok) : Calls prog 224 #[.agg (wl t).toArray, .int .i64 0] w fun e w' => e = .returned (.bool t.en) /\ Below w.heap.size w w' := by
 have := yK t.ld t.v (mK t.en t.re t.iq t.sc) (tk t.st) t.ph 0 0 w h.c.1 h.c.2 rfl (by omega)
 rw [mT] at this; exact this
theorem aMI (t : Tm) (w : World) (h : t.ok) : Calls prog 224 #[.agg (wl t).toArray, .int .i64 2] w fun e w' => e = .returned (.bool t.iq) /\ Below w.heap.size w w' := by
 have := yK t.ld t.v (mK t.en t.re t.iq t.sc) (tk t.st) t.ph 2 2 w h.c.1 h.c.2 rfl (by omega)
 rw [tQ] at this; exact this
theorem aMJ (t : Tm) (w : World) (h : t.ok) : Calls prog 227 #[.agg (wl t).toArray] w fun e w' => e = .returned (.int .u64 t.left) /\ Below w.heap.size w w' :=
 aOW t.ld t.v (mK t.en t.re t.iq t.sc) (tk t.st) t.ph t.sc w h.v0 h.v1 h.c.1 h.c.2 (xX _ _ _ _ h.s0 h.s1) h.s0 h.s1 h.p0 h.p1
theorem iW : (prog.info? 298).map (·.size) = some 5 := by kernel_rfl
def w5 (ld v c s ph : Int) : List Value := [.int .u32 ld, .int .u32 v, .int .u32 c, .int .u32 s, .int .u64 ph]
def A5 (w : World) (b : Nat) (T : TypeId) (ld v c s ph : Int) : Prop := w.heap[b]? = some (.cells (w5 ld v c s ph).toArray T (0, 0))
section
variable {w w' : World} {b : Nat} {T : TypeId} {ld v c s ph : Int}
theorem A5.lt (h : A5 w b T ld v c s ph) : b < w.heap.size := lt_of_block h
theorem A5.below (h : A5 w b T ld v c s ph) (hb : Below w.heap.size w w') : A5 w' b T ld v c s ph := aC hb h h.lt
theorem A5.off {S : Nat -> Prop} (h : A5 w b T ld v c s ph) (ho : aF S w w') (hs : ¬ S b) : A5 w' b T ld v c s ph := ho.at h hs
theorem A5.free (h : A5 w b T ld v c s ph) (j : Nat) : w.frozen? ⟨b, j, none⟩ = false := aK h j
theorem A5.c0 (h : A5 w b T ld v c s ph) : w.cell? ⟨b, 0, none⟩ = some (.int .u32 ld) := by rw [aA h 0]; rfl
theorem A5.c1 (h : A5 w b T ld v c s ph) : w.cell? ⟨b, 1, none⟩ = some (.int .u32 v) := by rw [aA h 1]; rfl
theorem A5.c2 (h : A5 w b T ld v c s ph) : w.cell? ⟨b, 2, none⟩ = some (.int .u32 c) := by rw [aA h 2]; rfl
theorem A5.c3 (h : A5 w b T ld v c s ph) : w.cell? ⟨b, 3, none⟩ = some (.int .u32 s) := by rw [aA h 3]; rfl
theorem A5.c4 (h : A5 w b T ld v c s ph) : w.cell? ⟨b, 4, none⟩ = some (.int .u64 ph) := by rw [aA h 4]; rfl
theorem A5.s0 (h : A5 w b T ld v c s ph) (x : Int) : A5 (w.setCell ⟨b, 0, none⟩ (.int .u32 x)) b T x v c s ph := by have := aR h 0 (.int .u32 x); simpa [A5, w5] using this
theorem A5.s1 (h : A5 w b T ld v c s ph) (x : Int) : A5 (w.setCell ⟨b, 1, none⟩ (.int .u32 x)) b T ld x c s ph := by have := aR h 1 (.int .u32 x); simpa [A5, w5] using this
theorem A5.s2 (h : A5 w b T ld v c s ph) (x : Int) : A5 (w.setCell ⟨b, 2, none⟩ (.int .u32 x)) b T ld v x s ph := by have := aR h 2 (.int .u32 x); simpa [A5, w5] using this
theorem A5.s3 (h : A5 w b T ld v c s ph) (x : Int) : A5 (w.setCell ⟨b, 3, none⟩ (.int .u32 x)) b T ld v c x ph := by have := aR h 3 (.int .u32 x); simpa [A5, w5] using this
theorem A5.s4 (h : A5 w b T ld v c s ph) (x : Int) : A5 (w.setCell ⟨b, 4, none⟩ (.int .u64 x)) b T ld v c s x := by have := aR h 4 (.int .u64 x); simpa [A5, w5] using this
theorem A5.other (h : A5 w b T ld v c s ph) (k j : Nat) (x : Value) (hne : b ≠ k) : A5 (w.setCell ⟨k, j, none⟩ x) b T ld v c s ph := aV h k j x hne
theorem A5.row {old : Array Value} (h : w.heap[b]? = some (.cells old T (0, 0))) (ld v c s ph : Int) : A5 (w.setRow b (w5 ld v c s ph).toArray) b T ld v c s ph := aY _ h
theorem A5.elseRow (h : A5 w b T ld v c s ph) (g : Nat) (cs : Array Value) (hne : b ≠ g) : A5 (w.setRow g cs) b T ld v c s ph := eQ g cs h hne
end
theorem aND (ld v c s ph : Int) : ∀ x ∈ w5 ld v c s ph, x.oneCell' = true := by
 intro x h
 simp only [w5, List.mem_cons, List.not_mem_nil, or_false] at h
 rcases h with rfl | rfl | rfl | rfl | rfl <;> rfl
section
variable {ops : Array Oper} {rest : List Oper} {o : Oper} {a : Act} {w : World} {Q : Exit -> Act -> World -> Prop}
theorem mY (hgd : o.guard = none) (x : Operand) (ho : o.op = .load 298 x) {b : Nat} {T : TypeId} (hx : a.eval x = .pointer (some ⟨b, 0, none⟩)) {ld v c s ph : Int} (hg : A5 w b T ld v c s ph)
 (h : wpList prog ops Q rest (a.put o.dst (.agg (w5 ld v c s ph).toArray)) w) : wpList prog ops Q (o :: rest) a w :=
 aN hgd _ x ho b 0 hx _ (w5 ld v c s ph) hg underlying298 rfl iW (aL _) h
theorem aGc (x : Operand) (ho : o.op = .load 298 x) (hw : Region.wanted o (yielded ops a.tmps) = true) {b : Nat} {T : TypeId} (hx : a.eval x = .pointer (some ⟨b, 0, none⟩)) {ld v c s ph : Int} (hg : A5 w b T ld v c s ph)
 (h : wpList prog ops Q rest (a.put o.dst (.agg (w5 ld v c s ph).toArray)) w) : wpList prog ops Q (o :: rest) a w :=
 dC _ x ho hw b 0 hx _ (w5 ld v c s ph) hg underlying298 rfl iW (aL _) h
theorem sD (hgd : o.guard = none) (x y : Operand) (ho : o.op = .store 298 x y) {b : Nat} {T : TypeId} (hx : a.eval x = .pointer (some ⟨b, 0, none⟩)) {ld v c s ph : Int} (hy : a.eval y = .agg (w5 ld v c s ph).toArray) {ld' v' c' s' ph' : Int}
 (hg : A5 w b T ld' v' c' s' ph')
 (h : wpList prog ops Q rest (a.put o.dst undef) (w.setRow b (w5 ld v c s ph).toArray)) : wpList prog ops Q (o :: rest) a w := by
 refine aJ hgd _ x y ho b 0 hx (w5 ld v c s ph) hy hg iW (by simp [w5]) (aND _ _ _ _ _) ?_
 rw [aW _ _ (by simp [w5])]
 exact h
theorem aHA {C : World -> Prop} {K : Act -> Prop} (x : Operand) (ho : o.op = .load 298 x) {b : Nat} {T : TypeId} (hx : a.eval x = .pointer (some ⟨b, 0, none⟩)) {ld v c s ph : Int} (hg : ∀ w, C w -> A5 w b T ld v c s ph)
 (h : K (a.put o.dst (.agg (w5 ld v c s ph).toArray))) : o.quiet prog a C K :=
 bD _ x ho b 0 hx _ (w5 ld v c s ph) (fun w hw => hg w hw) underlying298 rfl iW (aL _) h
end
theorem aMo {fn : Func} {p : Tmp} (h : fn.results = #[.cell p 298]) (tmps : Array Value) (w : World) {b : Nat} {T : TypeId} {ld v c s ph : Int} (hp : tmps[p]? = some (.pointer (some ⟨b, 0, none⟩))) (hg : A5 w b T ld v c s ph) :
 (results fn tmps).run prog w = .ok (.agg (w5 ld v c s ph).toArray) w :=
 aS h tmps w b 0 _ (w5 ld v c s ph) hp hg underlying298 rfl iW (aL _)
theorem aBx : Obj.cells #[.int .u32 0, .int .u32 0, .int .u32 0, .int .u32 0, .int .u64 0] 298 (0, 0) = .cells (w5 0 0 0 0 0).toArray 298 (0, 0) := rfl
theorem qU {P : Prop} (h : P := by
 go_wp2_with (first | (refine mY rfl (.tmp 1) rfl rfl X2 ?_) | (refine sD rfl (.tmp 2) (.tmp 26) rfl rfl rfl Y2 ?_))
 refine bodyPost_ret (aMo rfl _ _ rfl Y3) rfl ⟨rfl, hB3⟩
 ) : P := h
theorem aEj (ld v c s ph c' : Int) (w : World) (l0 : 0 <= ld) (l1 : ld < 4294967296) (c0 : 0 <= c) (c1 : c < 4294967296) (re : Bool) (hre : aO c 1 = re) (hx : re = false) (hput : put c 0 1 0 = c') :
 Calls prog 284 #[.agg (w5 ld v c s ph).toArray] w fun e w' => e = .returned (.agg (w5 ld 0 c' 1 0).toArray) /\ Below w.heap.size w w' := by
 subst hx
 have hfl := Hd (fun w => by have := yK ld v c s ph 1 1 w c0 c1 rfl (by omega); rw [hre] at this; exact this)
 have hpt := Hd (fun w => by have := Put c 0 1 0 w c0 c1 (by omega) (by omega) (by omega) (by omega); rw [hput] at this; exact this)
 clear hre hput
 have hB := aE (aE (aH w) (.cells (w5 ld v c s ph).toArray 298 (0, 0))) (.cells (w5 0 0 0 0 0).toArray 298 (0, 0))
 have X : A5 _ _ _ ld v c s ph := bM w (.cells (w5 ld v c s ph).toArray 298 (0, 0)) (.cells (w5 0 0 0 0 0).toArray 298 (0, 0))
 have Y : A5 _ _ _ 0 0 0 0 0 := bU w (.cells (w5 ld v c s ph).toArray 298 (0, 0)) (.cells (w5 0 0 0 0 0).toArray 298 (0, 0))
 go_enter func284, ntmps284
 go_upto_region 1 with (fail)
 rw [aBx]
 generalize ((w.alloc (.cells (w5 ld v c s ph).toArray 298 (0, 0))).alloc (.cells (w5 0 0 0 0 0).toArray 298 (0, 0))) = W at *
 have x0 := X.c0
 go_wp2_with (refine mY rfl (.tmp 1) rfl rfl X ?_)
 refine (hfl.out _).mono ?_
 rintro e w1 ⟨rfl, hb⟩
 have X1 := X.below hb
 have Y1 := Y.below hb
 have hB1 := tr hB hb
 clear X Y hB hb x0 W
 have X := X1
 have Y := Y1
 have hB := hB1
 clear X1 Y1 hB1
 generalize w1 = W at *
 have x1 := X.c1
 have x2 := X.c2
 have x3 := X.c3
 have x4 := X.c4
 have f1 := X.free 1
 have f2 := X.free 2
 have f3 := X.free 3
 have f4 := X.free 4
 go_upto_region 7 with (first | (go_at_call 112; refine (hpt.out _).mono ?_; rintro e w2 ⟨rfl, rfl⟩))
 have X2 := (((X.s2 c').s1 0).s3 1).s4 0
 have Y2 := (((Y.other w.heap.size 2 (.int .u32 c') (by omega)).other w.heap.size 1 (.int .u32 0) (by omega)).other w.heap.size 3 (.int .u32 1) (by omega)).other w.heap.size 4 (.int .u64 0) (by omega)
 have hB2 := (((hB.setCell (p := ⟨w.heap.size, 2, none⟩) (by simp) (.int .u32 c')).setCell (p := ⟨w.heap.size, 1, none⟩) (by simp) (.int .u32 0)).setCell (p := ⟨w.heap.size, 3, none⟩) (by simp) (.int .u32 1)).setCell (p := ⟨w.heap.size, 4, none⟩) (by simp) (.int .u64 0)
 clear X Y hB x1 x2 x3 x4 f1 f2 f3 f4
 generalize ((((W.setCell ⟨w.heap.size, 2, none⟩ (.int .u32 c')).setCell ⟨w.heap.size, 1, none⟩ (.int .u32 0)).setCell ⟨w.heap.size, 3, none⟩ (.int .u32 1)).setCell ⟨w.heap.size, 4, none⟩ (.int .u64 0)) = W2 at *
 have Y3 := A5.row Y2 ld 0 c' 1 0
 have hB3 := aB hB2 (w5 ld 0 c' 1 0).toArray (g := w.heap.size + 1) (by omega)
 exact qU
theorem aEk (ld v c s ph c' : Int) (w : World) (l0 : 0 <= ld) (l1 : ld < 4294967296) (c0 : 0 <= c) (c1 : c < 4294967296) (re : Bool) (hre : aO c 1 = re) (hx : re = true /\ ld = 0) (hput : put c 0 1 0 = c') :
 Calls prog 284 #[.agg (w5 ld v c s ph).toArray] w fun e w' => e = .returned (.agg (w5 ld 0 c' 1 0).toArray) /\ Below w.heap.size w w' := by
 obtain ⟨rfl, rfl⟩ := hx
 have hfl := Hd (fun w => by have := yK 0 v c s ph 1 1 w c0 c1 rfl (by omega); rw [hre] at this; exact this)
 have hpt := Hd (fun w => by have := Put c 0 1 0 w c0 c1 (by omega) (by omega) (by omega) (by omega); rw [hput] at this; exact this)
 clear hre hput
 have hB := aE (aE (aH w) (.cells (w5 0 v c s ph).toArray 298 (0, 0))) (.cells (w5 0 0 0 0 0).toArray 298 (0, 0))
 have X : A5 _ _ _ 0 v c s ph := bM w (.cells (w5 0 v c s ph).toArray 298 (0, 0)) (.cells (w5 0 0 0 0 0).toArray 298 (0, 0))
 have Y : A5 _ _ _ 0 0 0 0 0 := bU w (.cells (w5 0 v c s ph).toArray 298 (0, 0)) (.cells (w5 0 0 0 0 0).toArray 298 (0, 0))
 go_enter func284, ntmps284
 go_upto_region 1 with (fail)
 rw [aBx]
 generalize ((w.alloc (.cells (w5 0 v c s ph).toArray 298 (0, 0))).alloc (.cells (w5 0 0 0 0 0).toArray 298 (0, 0))) = W at *
 have x0 := X.c0
 go_wp2_with (refine mY rfl (.tmp 1) rfl rfl X ?_)
 refine (hfl.out _).mono ?_
 rintro e w1 ⟨rfl, hb⟩
 have X1 := X.below hb
 have Y1 := Y.below hb
 have hB1 := tr hB hb
 clear X Y hB hb x0 W
 have X := X1
 have Y := Y1
 have hB := hB1
 clear X1 Y1 hB1
 generalize w1 = W at *
 have x1 := X.c1
 have x2 := X.c2
 have x3 := X.c3
 have x4 := X.c4
 have f1 := X.free 1
 have f2 := X.free 2
 have f3 := X.free 3
 have f4 := X.free 4
 go_upto_region 7 with (first | (go_at_call 112; refine (hpt.out _).mono ?_; rintro e w2 ⟨rfl, rfl⟩))
 have X2 := (((X.s2 c').s1 0).s3 1).s4 0
 have Y2 := (((Y.other w.heap.size 2 (.int .u32 c') (by omega)).other w.heap.size 1 (.int .u32 0) (by omega)).other w.heap.size 3 (.int .u32 1) (by omega)).other w.heap.size 4 (.int .u64 0) (by omega)
 have hB2 := (((hB.setCell (p := ⟨w.heap.size, 2, none⟩) (by simp) (.int .u32 c')).setCell (p := ⟨w.heap.size, 1, none⟩) (by simp) (.int .u32 0)).setCell (p := ⟨w.heap.size, 3, none⟩) (by simp) (.int .u32 1)).setCell (p := ⟨w.heap.size, 4, none⟩) (by simp) (.int .u64 0)
 clear X Y hB x1 x2 x3 x4 f1 f2 f3 f4
 generalize ((((W.setCell ⟨w.heap.size, 2, none⟩ (.int .u32 c')).setCell ⟨w.heap.size, 1, none⟩ (.int .u32 0)).setCell ⟨w.heap.size, 3, none⟩ (.int .u32 1)).setCell ⟨w.heap.size, 4, none⟩ (.int .u64 0)) = W2 at *
 have Y3 := A5.row Y2 0 0 c' 1 0
 have hB3 := aB hB2 (w5 0 0 c' 1 0).toArray (g := w.heap.size + 1) (by omega)
 exact qU
theorem aEl (ld v c s ph c' : Int) (w : World) (l0 : 0 <= ld) (l1 : ld < 4294967296) (c0 : 0 <= c) (c1 : c < 4294967296) (re : Bool) (hre : aO c 1 = re) (hx : re = true /\ ld ≠ 0) (hput : put c 0 1 0 = c') :
 Calls prog 284 #[.agg (w5 ld v c s ph).toArray] w fun e w' => e = .returned (.agg (w5 ld ld c 1 0).toArray) /\ Below w.heap.size w w' := by
 obtain ⟨rfl, hz⟩ := hx
 have hn : (ld == 0) = false := by simpa using hz
 clear hz
 have hfl := Hd (fun w => by have := yK ld v c s ph 1 1 w c0 c1 rfl (by omega); rw [hre] at this; exact this)
 have hpt := Hd (fun w => by have := Put c 0 1 0 w c0 c1 (by omega) (by omega) (by omega) (by omega); rw [hput] at this; exact this)
 clear hre hput
 have hB := aE (aE (aH w) (.cells (w5 ld v c s ph).toArray 298 (0, 0))) (.cells (w5 0 0 0 0 0).toArray 298 (0, 0))
 have X : A5 _ _ _ ld v c s ph := bM w (.cells (w5 ld v c s ph).toArray 298 (0, 0)) (.cells (w5 0 0 0 0 0).toArray 298 (0, 0))
 have Y : A5 _ _ _ 0 0 0 0 0 := bU w (.cells (w5 ld v c s ph).toArray 298 (0, 0)) (.cells (w5 0 0 0 0 0).toArray 298 (0, 0))
 go_enter func284, ntmps284
 go_upto_region 1 with (fail)
 rw [aBx]
 generalize ((w.alloc (.cells (w5 ld v c s ph).toArray 298 (0, 0))).alloc (.cells (w5 0 0 0 0 0).toArray 298 (0, 0))) = W at *
 have x0 := X.c0
 go_wp2_with (refine mY rfl (.tmp 1) rfl rfl X ?_)
 refine (hfl.out _).mono ?_
 rintro e w1 ⟨rfl, hb⟩
 have X1 := X.below hb
 have Y1 := Y.below hb
 have hB1 := tr hB hb
 clear X Y hB hb x0 W
 have X := X1
 have Y := Y1
 have hB := hB1
 clear X1 Y1 hB1
 generalize w1 = W at *
 have x1 := X.c1
 have x2 := X.c2
 have x3 := X.c3
 have x4 := X.c4
 have f1 := X.free 1
 have f2 := X.free 2
 have f3 := X.free 3
 have f4 := X.free 4
 go_upto_region 7 with (first | (go_at_call 112; refine (hpt.out _).mono ?_; rintro e w2 ⟨rfl, rfl⟩))
 have X2 := ((X.s1 ld).s3 1).s4 0
 have Y2 := ((Y.other w.heap.size 1 (.int .u32 ld) (by omega)).other w.heap.size 3 (.int .u32 1) (by omega)).other w.heap.size 4 (.int .u64 0) (by omega)
 have hB2 := ((hB.setCell (p := ⟨w.heap.size, 1, none⟩) (by simp) (.int .u32 ld)).setCell (p := ⟨w.heap.size, 3, none⟩) (by simp) (.int .u32 1)).setCell (p := ⟨w.heap.size, 4, none⟩) (by simp) (.int .u64 0)
 clear X Y hB x1 x2 x3 x4 f1 f2 f3 f4
 generalize (((W.setCell ⟨w.heap.size, 1, none⟩ (.int .u32 ld)).setCell ⟨w.heap.size, 3, none⟩ (.int .u32 1)).setCell ⟨w.heap.size, 4, none⟩ (.int .u64 0)) = W2 at *
 have Y3 := A5.row Y2 ld ld c 1 0
 have hB3 := aB hB2 (w5 ld ld c 1 0).toArray (g := w.heap.size + 1) (by omega)
 exact qU
theorem aKu (t : Tm) : wl t = w5 t.ld t.v (mK t.en t.re t.iq t.sc) (tk t.st) t.ph := rfl
theorem aPx (t : Tm) (w : World) (h : t.ok) : Calls prog 284 #[.agg (wl t).toArray] w fun e w' => e = .returned (.agg (wl t.exp).toArray) /\ Below w.heap.size w w' := by
 have hre := tP t.en t.re t.iq t.sc
 have hp := aEP t.en t.re t.iq t.sc h.s0 h.s1
 rw [aKu, aKu]
 unfold Tm.exp
 cases hr : t.re
 . rw [if_neg (by simp)]
   have := aEj t.ld t.v (mK t.en t.re t.iq t.sc) (tk t.st) t.ph _ w h.l0 h.l1 h.c.1 h.c.2 t.re hre hr hp
   rw [hr] at this
   exact this
 . by_cases hl : t.ld = 0
   . rw [if_neg (by simp [hl])]
     have := aEk t.ld t.v (mK t.en t.re t.iq t.sc) (tk t.st) t.ph _ w h.l0 h.l1 h.c.1 h.c.2 t.re hre ⟨hr, hl⟩ hp
     rw [hr] at this
     exact this
   . rw [if_pos (by simp [hl])]
     have := aEl t.ld t.v (mK t.en t.re t.iq t.sc) (tk t.st) t.ph _ w h.l0 h.l1 h.c.1 h.c.2 t.re hre ⟨hr, hl⟩ hp
     rw [hr] at this
     exact this
theorem aGo (ld v c s ph sc : Int) (w : World) (c0 : 0 <= c) (c1 : c < 4294967296) (hs : field c 8 8 = sc) (s0 : 0 <= sc) (s1 : sc < 256) :
 Calls prog 235 #[.agg (w5 ld v c s ph).toArray] w fun e w' => e = .returned (.int .u64 (sc + 1)) /\ Below w.heap.size w w' :=
 aDo ld v c s ph sc w c0 c1 hs s0 s1
theorem aIs (ld v c s ph sc n : Int) (w : World) (v1 : v < 4294967296) (c0 : 0 <= c) (c1 : c < 4294967296) (hs : field c 8 8 = sc) (s0 : 0 <= sc) (s1 : sc < 256) (p0 : 0 <= ph) (p1 : ph <= sc) (n0 : 0 <= n) (n1 : n < 1099511627776)
 (q0 : 0 <= (ph + n) / (sc + 1)) (q1 : (ph + n) / (sc + 1) <= v) :
 Calls prog 285 #[.agg (w5 ld v c s ph).toArray, .int .u64 n] w fun e w' => e = .returned (.agg (w5 ld (v - (ph + n) / (sc + 1)) c s ((ph + n) % (sc + 1))).toArray) /\ Below w.heap.size w w' := by
 have hp := Hd (fun v ph w => aGo ld v c s ph sc w c0 c1 hs s0 s1)
 clear hs
 have hB := aE (aE (aH w) (.cells (w5 ld v c s ph).toArray 298 (0, 0))) (.cells (w5 0 0 0 0 0).toArray 298 (0, 0))
 have X : A5 _ _ _ ld v c s ph := bM w (.cells (w5 ld v c s ph).toArray 298 (0, 0)) (.cells (w5 0 0 0 0 0).toArray 298 (0, 0))
 have Y : A5 _ _ _ 0 0 0 0 0 := bU w (.cells (w5 ld v c s ph).toArray 298 (0, 0)) (.cells (w5 0 0 0 0 0).toArray 298 (0, 0))
 go_enter func285, ntmps285
 go_upto_region 1 with (fail)
 rw [aBx]
 generalize ((w.alloc (.cells (w5 ld v c s ph).toArray 298 (0, 0))).alloc (.cells (w5 0 0 0 0 0).toArray 298 (0, 0))) = W at *
 have x4 := X.c4
 go_upto_region 2 with (fail)
 have hr : 0 <= (ph + n) % (sc + 1) /\ (ph + n) % (sc + 1) < sc + 1 := fU (by omega)
 have hl : lo ((ph + n) / (sc + 1)) = (ph + n) / (sc + 1) := by unfold lo; omega
 have hLo := Hd (fun w => by have := Lo ((ph + n) / (sc + 1)) w q0 (by omega); rw [hl] at this; exact this)
 have hk : 0 <= v - (ph + n) / (sc + 1) /\ v - (ph + n) / (sc + 1) < 4294967296 := by omega
 clear hl
 have hX := X.lt
 have hY := Y.lt
 have x0 := X.c0
 have x1 := X.c1
 have x2 := X.c2
 have x3 := X.c3
 have f1 := X.free 1
 have hg := bC
 have hf := dE
 have HX := Hd X
 have HY := Hd Y
 clear X Y
 refine aM 11 (by kernel_rfl) (by kernel_rfl) ?_
 simp only [List.take_succ_cons, List.take_zero, List.drop_succ_cons, List.drop_zero]
 repeat (first
  | go_big_quiet_skip
  | (go_big_quiet_want; first
      | (refine aHA (.tmp 2) rfl rfl (bZ HX.out) ?_; go_simp; go_big_quiet_on)
      | (go_big_quiet_op; first
          | go_big_quiet_on
          | go_big_quiet_call (first
             | (go_at_call 235; exact Calls.regrown_of (hp.out _ _ _))
             | (go_at_call 55; exact Calls.regrown_of ((hLo.out _).mono fun e w' h => ⟨h.1, h.2 ▸ aH _⟩))))))
 refine wpQuiet_nil ?_
 intro _ hw'
 obtain ⟨⟨dq, osq⟩, hw''⟩ := hw'
 subst hw''
 obtain ⟨V, hV⟩ : ∃ V, v - (ph + n) / (sc + 1) = V := ⟨_, rfl⟩
 obtain ⟨R, hR⟩ : ∃ R, (ph + n) % (sc + 1) = R := ⟨_, rfl⟩
 rw [hV]
 go_upto_region 3 with (fail)
 have hbr := below_regrown W dq osq
 have X := (HX.out.below hbr).s1 V
 have Y := (HY.out.below hbr).other w.heap.size 1 (.int .u32 V) (by omega)
 have hB := (tr hB hbr).setCell (p := ⟨w.heap.size, 1, none⟩) (by simp) (.int .u32 V)
 clear HX HY x0 x1 x2 x3 x4 f1 hg hf hbr hX hY hLo
 generalize ((grow (redrawn W dq) osq).setCell ⟨w.heap.size, 1, none⟩ (.int .u32 V)) = W2 at *
 have HV := Hd hV
 have HR := Hd hR
 clear q0 q1 hk hV
 go_wp2_with (refine mY rfl (.tmp 2) rfl rfl X ?_)
 refine (hp.out _ _ _).mono ?_
 rintro e W3 ⟨rfl, hb⟩
 have X1 := X.below hb
 have Y1 := Y.below hb
 have hB1 := tr hB hb
 clear X Y hB hb
 have f4 := X1.free 4
 have x4 := X1.c4
 go_upto_region 4 with (fail)
 rw [hR]
 clear hR hr
 have X2 := X1.s4 R
 have Y2 := Y1.other w.heap.size 4 (.int .u64 R) (by omega)
 have hB2 := hB1.setCell (p := ⟨w.heap.size, 4, none⟩) (by simp) (.int .u64 R)
 clear X1 Y1 hB1 f4 x4
 generalize W3.setCell ⟨w.heap.size, 4, none⟩ (.int .u64 R) = W4 at *
 have Y3 := A5.row Y2 ld V c s R
 have hB3 := aB hB2 (w5 ld V c s R).toArray (g := w.heap.size + 1) (by omega)
 go_wp2_with (first | (refine mY rfl (.tmp 2) rfl rfl X2 ?_) | (refine sD rfl (.tmp 4) (.tmp 26) rfl rfl rfl Y2 ?_))
 refine bodyPost_ret (aMo rfl _ _ rfl Y3) rfl ⟨by rw [<- HV.out, <- HR.out], hB3⟩
theorem aPy (t : Tm) (n : Int) (w : World) (h : t.ok) (n0 : 0 <= n) (hn : n < t.left) : Calls prog 285 #[.agg (wl t).toArray, .int .u64 n] w fun e w' => e = .returned (.agg (wl (t.lat n)).toArray) /\ Below w.heap.size w w' := by
 have hs := lZ h.v0 h.s0 h.p0 n0 hn
 have hl := h.left
 exact aIs t.ld t.v (mK t.en t.re t.iq t.sc) (tk t.st) t.ph t.sc n w h.v1 h.c.1 h.c.2 (xX _ _ _ _ h.s0 h.s1) h.s0 h.s1 h.p0 h.p1 n0 (by omega) hs.1 hs.2.2
end Go.Proofs.YtaohacadochldaaGreat.B
