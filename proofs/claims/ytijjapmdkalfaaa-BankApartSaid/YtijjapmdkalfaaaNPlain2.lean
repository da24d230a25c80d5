/- Layer 6 (count) in plain numbers: ticks in two calls are as in one; tick by tick. No Go. -/
import Derived.Test.YtijjapmdkalfaaaNPlain
namespace Go.Proofs.Ytijjapmdkalfaaa.B
set_option linter.unusedVariables false
set_option linter.unusedSimpArgs false
theorem Tm.lat_left {t : Tm} (o : t.ok) {a : Int} (a0 : 0 ≤ a) (ha : a < t.left) : (t.lat a).left = t.left - a := by
  have s0 := o.s0
  have h1 := steps_bounds o.v0 o.s0 o.p0 a0 ha
  have h2 := Int.emod_add_mul_ediv (t.ph + a) (t.sc + 1)
  have h3 := Int.mul_comm ((t.ph + a) / (t.sc + 1)) (t.sc + 1)
  show max (t.v - (t.ph + a) / (t.sc + 1)) 1 * (t.sc + 1) - (t.ph + a) % (t.sc + 1) = max t.v 1 * (t.sc + 1) - t.ph - a
  by_cases c : t.v = 0
  · have hq : (t.ph + a) / (t.sc + 1) = 0 := by omega
    rw [hq] at h2 ⊢
    rw [Int.sub_zero]
    omega
  · have v0 := o.v0
    rw [show max (t.v - (t.ph + a) / (t.sc + 1)) 1 = t.v - (t.ph + a) / (t.sc + 1) by omega, show max t.v 1 = t.v by omega, Int.sub_mul]
    omega
theorem Tm.lat_lat {t : Tm} (o : t.ok) (a b : Int) : (t.lat a).lat b = t.lat (a + b) := by
  have s0 := o.s0
  have h := div_add (x := t.ph + a) (b := b) (u := t.sc + 1) (by omega)
  rw [Int.add_assoc] at h
  unfold Tm.lat
  simp only [Tm.mk.injEq, true_and, and_true]
  exact ⟨by rw [h.1]; omega, h.2.symm⟩
theorem Tm.lat_exp (t : Tm) (a : Int) : (t.lat a).exp = t.exp := rfl
theorem Tm.lat_zero {t : Tm} (o : t.ok) : t.lat 0 = t := by
  have p0 := o.p0
  have p1 := o.p1
  unfold Tm.lat
  rw [Int.add_zero, Int.ediv_eq_zero_of_lt p0 (by omega), Int.emod_eq_of_lt p0 (by omega), Int.sub_zero]
theorem Tm.tick_zero {t : Tm} (o : t.ok) : t.tick 0 = t := by
  have hl := o.left
  cases he : t.en
  · exact Tm.tick_off he 0
  · rw [Tm.tick_lt he (by omega), Tm.lat_zero o]
/-- Ticks in two calls are as in one. -/
theorem Tm.tick_add : ∀ (k : Nat) (t : Tm) (a b : Int), t.ok → 0 ≤ a → a < k → 0 ≤ b → (t.tick a).tick b = t.tick (a + b) := by
  intro k
  induction k with
  | zero => intro t a b _ a0 ak _; exact absurd ak (by omega)
  | succ k ih =>
    intro t a b o a0 ak b0
    have hl := o.left
    cases he : t.en
    · rw [Tm.tick_off he, Tm.tick_off he, Tm.tick_off he]
    by_cases c : a < t.left
    · rw [Tm.tick_lt he c]
      have ol := Tm.lat_ok o a0 c
      have ll := Tm.lat_left o a0 c
      have el : (t.lat a).en = true := he
      by_cases d : a + b < t.left
      · rw [Tm.tick_lt el (by omega), Tm.tick_lt he d, Tm.lat_lat o]
      · rw [Tm.tick_ge ol el (by omega), Tm.tick_ge o he (show t.left ≤ a + b by omega), Tm.lat_exp, ll]
        congr 1; omega
    · rw [Tm.tick_ge o he (show t.left ≤ a by omega), Tm.tick_ge o he (show t.left ≤ a + b by omega), ih _ _ _ (Tm.exp_ok o) (by omega) (by omega) b0]
      congr 1; omega
theorem Tm.tick_tick {t : Tm} (o : t.ok) {a b : Int} (a0 : 0 ≤ a) (b0 : 0 ≤ b) : (t.tick a).tick b = t.tick (a + b) :=
  Tm.tick_add (a.toNat + 1) t a b o a0 (by omega) b0
/-- A tick. -/
def Tm.one (t : Tm) : Tm :=
  if t.en = true then (if t.ph < t.sc then { t with ph := t.ph + 1 } else if 1 < t.v then { t with v := t.v - 1, ph := 0 } else t.exp) else t
theorem Tm.one_tick {t : Tm} (o : t.ok) : t.one = t.tick 1 := by
  have s0 := o.s0
  have p0 := o.p0
  have p1 := o.p1
  have v0 := o.v0
  unfold Tm.one
  cases he : t.en
  · rw [if_neg (by simp), Tm.tick_off he]
  rw [if_pos rfl]
  have hu := mul_bounds (a := max t.v 1) (b := max t.v 1) (u := t.sc + 1) (by omega) (by omega) (by omega)
  have hL : t.left = max t.v 1 * (t.sc + 1) - t.ph := rfl
  by_cases c : t.ph < t.sc
  · rw [if_pos c, Tm.tick_lt he (by omega)]
    unfold Tm.lat
    rw [Int.ediv_eq_zero_of_lt (by omega) (by omega), Int.emod_eq_of_lt (by omega) (by omega), Int.sub_zero, ← he]
  · rw [if_neg c]
    have hp : t.ph = t.sc := by omega
    by_cases d : 1 < t.v
    · have hu2 := mul_bounds (a := 1) (b := max t.v 1 - 1) (u := t.sc + 1) (by omega) (by omega) (by omega)
      rw [Int.sub_mul] at hu2
      rw [if_pos d, Tm.tick_lt he (by omega)]
      unfold Tm.lat
      rw [hp, Int.ediv_self (by omega), Int.emod_self]
      simp [he]
    · rw [if_neg d]
      have h1 : t.left = 1 := by
        rw [hL, show max t.v 1 = 1 by omega, Int.one_mul]; omega
      rw [Tm.tick_ge o he (by omega), h1, Int.sub_self, Tm.tick_zero (Tm.exp_ok o)]
/-- The tick of an expiry. -/
theorem Tm.one_exp {t : Tm} (he : t.en = true) : ({ t with v := 1, ph := t.sc } : Tm).one = t.exp := by
  unfold Tm.one
  rw [if_pos he, if_neg (by show ¬ t.sc < t.sc; omega), if_neg (by show ¬ (1 : Int) < 1; omega)]
  rfl
theorem Tm.exp_left {t : Tm} (he : t.exp.en = true) (l0 : 0 ≤ t.ld) : t.exp.left = t.ld * (t.sc + 1) ∧ 1 ≤ t.ld := by
  unfold Tm.exp at he ⊢
  by_cases c : (t.re && t.ld != 0) = true
  · rw [if_pos c]
    have : t.ld ≠ 0 := by simpa using (by simpa using c : t.re = true ∧ ¬ t.ld = 0).2
    refine ⟨?_, by omega⟩
    show max t.ld 1 * (t.sc + 1) - 0 = _
    rw [show max t.ld 1 = t.ld by omega, Int.sub_zero]
  · rw [if_neg c] at he; cases he
end Go.Proofs.Ytijjapmdkalfaaa.B
