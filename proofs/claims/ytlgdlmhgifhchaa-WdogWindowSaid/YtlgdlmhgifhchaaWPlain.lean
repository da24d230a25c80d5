/- Layer 8 (wdog) in plain numbers: ticks at once, what is left, registers read and written, keys. No Go. -/
import Derived.Test.YtlgdlmhgifhchaaLPlain
namespace Go.Proofs.Ytlgdlmhgifhchaa.B
set_option linter.unusedVariables false
set_option linter.unusedSimpArgs false
/-- A watchdog: enable, lock, armed, closed, total, since, fault. -/
structure Wd where
  en : Bool
  lk : Bool
  ar : Bool
  cl : Int
  tot : Int
  si : Int
  fa : Int
structure Wd.ok (t : Wd) : Prop where
  c0 : 0 ≤ t.cl
  c1 : t.cl < 4294967296
  t0 : 0 ≤ t.tot
  t1 : t.tot < 4294967296
  s0 : 0 ≤ t.si
  s1 : t.si ≤ t.tot
  run : t.en = true → t.fa = 0 → t.si < t.tot
  win : t.en = true → t.cl < t.tot
  fa : t.fa = 0 ∨ t.fa = 2 ∨ t.fa = 4 ∨ t.fa = 8
  idle : t.en = false → t.fa = 0 ∧ t.si = 0 ∧ t.ar = false
def wz : Wd := ⟨false, false, false, 0, 0, 0, 0⟩
theorem wz_ok : wz.ok := ⟨by decide, by decide, by decide, by decide, by decide, by decide, by decide, by decide, .inl rfl, fun _ => ⟨rfl, rfl, rfl⟩⟩
/-- How many ticks there are to Timeout. -/
def Wd.left (t : Wd) : Int := if t.en = true ∧ t.fa = 0 then t.tot - t.si else 18446744073709551615
/-- So many ticks. -/
def Wd.tick (t : Wd) (n : Int) : Wd := if t.en = true ∧ t.fa = 0 then (if t.tot ≤ t.si + n then { t with si := t.tot, fa := 2 } else { t with si := t.si + n }) else t
/-- How many there were. -/
def Wd.ran (t : Wd) (n : Int) : Int := if t.fa ≠ 0 then 0 else if t.en = true then (if t.tot ≤ t.si + n then t.tot - t.si else n) else n
theorem Wd.tick_ok {t : Wd} (h : t.ok) {n : Int} (n0 : 0 ≤ n) : (t.tick n).ok := by
  obtain ⟨c0, c1, t0, t1, s0, s1, run, win, fa, idle⟩ := h
  unfold Wd.tick
  split
  · rename_i he
    split
    · exact ⟨c0, c1, t0, t1, t0, Int.le_refl _, fun _ h => absurd h (show ¬ (2 : Int) = 0 by decide), win, .inr (.inl rfl), fun h => absurd (he.1.symm.trans h) (by decide)⟩
    · exact ⟨c0, c1, t0, t1, by show 0 ≤ t.si + n; omega, by show t.si + n ≤ t.tot; omega, fun _ _ => by show t.si + n < t.tot; omega, win, fa, fun h => absurd (he.1.symm.trans h) (by decide)⟩
  · exact ⟨c0, c1, t0, t1, s0, s1, run, win, fa, idle⟩
theorem Wd.left_bounds {t : Wd} (h : t.ok) : 0 < t.left ∧ t.left ≤ 18446744073709551615 := by
  unfold Wd.left
  split
  · rename_i he
    have := h.run he.1 he.2
    have := h.s0; have := h.t1
    omega
  · omega
/-- Two calls are as one. -/
theorem Wd.tick_tick {t : Wd} {a b : Int} (a0 : 0 ≤ a) (b0 : 0 ≤ b) : (t.tick a).tick b = t.tick (a + b) := by
  obtain ⟨en, lk, ar, cl, tot, si, fa⟩ := t
  unfold Wd.tick
  simp only
  by_cases he : en = true ∧ fa = 0
  · rw [if_pos he, if_pos he]
    by_cases h1 : tot ≤ si + a
    · rw [if_pos h1, if_pos (show tot ≤ si + (a + b) by omega)]
      simp
    · rw [if_neg h1]
      simp only
      rw [if_pos he]
      by_cases h2 : tot ≤ si + (a + b)
      · rw [if_pos h2, if_pos (show tot ≤ si + a + b by omega)]
      · rw [if_neg h2, if_neg (show ¬ tot ≤ si + a + b by omega), Int.add_assoc]
  · rw [if_neg he, if_neg he, if_neg he]
theorem Wd.ran_ran {t : Wd} {a b : Int} (h : t.ok) (a0 : 0 ≤ a) (b0 : 0 ≤ b) : t.ran a + (t.tick a).ran b = t.ran (a + b) := by
  obtain ⟨en, lk, ar, cl, tot, si, fa⟩ := t
  have hi := h.idle
  simp only at hi
  unfold Wd.ran Wd.tick
  simp only
  cases en
  · obtain ⟨rfl, _, _⟩ := hi rfl
    simp
  · by_cases hf : fa = 0
    · subst hf
      simp only [ne_eq, not_true_eq_false, if_false, and_self, if_true]
      by_cases h1 : tot ≤ si + a
      · rw [if_pos h1, if_pos h1, if_pos (show tot ≤ si + (a + b) by omega)]
        simp
      · rw [if_neg h1, if_neg h1]
        simp only [ne_eq, not_true_eq_false, if_false, if_true]
        by_cases h2 : tot ≤ si + (a + b)
        · rw [if_pos h2, if_pos (show tot ≤ si + a + b by omega)]; omega
        · rw [if_neg h2, if_neg (show ¬ tot ≤ si + a + b by omega)]
    · simp [hf]
/-- The registers' errors. -/
def wErr (o : Int) : Int := if o % 4 ≠ 0 then 11 else if o ≤ 16 then 0 else 10
def wSErr (o : Int) : Int := if o = 16 then 12 else wErr o
def Wd.val (t : Wd) (o : Int) : Int := if o = 0 then tk t.en + 2 * tk t.lk else if o = 4 then t.cl else if o = 8 then t.tot else if o = 16 then t.si else 0
/-- What is asked of an offset is one of these. -/
theorem wErr_cases {o : Int} (o0 : 0 ≤ o) : o = 0 ∨ o = 4 ∨ o = 8 ∨ o = 12 ∨ o = 16 ∨ (o % 4 ≠ 0) ∨ (o % 4 = 0 ∧ 16 < o) := by omega
/-- The control word is written. -/
def Wd.ctlTo (t : Wd) (v : Int) : Wd := if t.en = false ∧ v % 2 = 1 ∧ t.cl < t.tot then { t with en := true, si := 0, ar := false } else if t.en = true ∧ v % 2 = 0 then { t with en := false, si := 0, ar := false } else t
def Wd.ctlPut (t : Wd) (v : Int) : Wd := if t.lk = true then t else { t.ctlTo v with lk := (v / 2 % 2 == 1) }
/-- The key is written. -/
def Wd.key (t : Wd) (v : Int) : Wd :=
  if t.en = false then t else if v = 23130 then { t with ar := true } else if v = 42405 ∧ t.ar = true then (if t.si < t.cl then { t with fa := 4 } else { t with si := 0, ar := false }) else if t.si < t.cl then { t with fa := 8 } else { t with ar := false }
def Wd.sto (t : Wd) (o v : Int) : Wd :=
  if t.fa ≠ 0 then t else if o = 0 then t.ctlPut v else if o = 4 then (if t.lk = true ∨ t.en = true then t else { t with cl := v }) else if o = 8 then (if t.lk = true ∨ t.en = true then t else { t with tot := v }) else if o = 12 then t.key v else t
theorem Wd.sto_ok {t : Wd} (h : t.ok) {o v : Int} (v0 : 0 ≤ v) (v1 : v < 4294967296) : (t.sto o v).ok := by
  unfold Wd.sto
  split
  · exact h
  rename_i hf
  have hf0 : t.fa = 0 := by simpa using hf
  obtain ⟨c0, c1, t0, t1, s0, s1, run, win, fa, idle⟩ := h
  have same : t.ok := ⟨c0, c1, t0, t1, s0, s1, run, win, fa, idle⟩
  split
  · unfold Wd.ctlPut
    split
    · exact same
    · have hc : (t.ctlTo v).ok := by
        unfold Wd.ctlTo
        split
        · rename_i hx
          exact ⟨c0, c1, t0, t1, Int.le_refl _, t0, fun _ _ => by show 0 < t.tot; omega, fun _ => hx.2.2, .inl hf0, fun h => absurd h (by simp)⟩
        · split
          · exact ⟨c0, c1, t0, t1, Int.le_refl _, t0, fun h => absurd h (by simp), fun h => absurd h (by simp), .inl hf0, fun _ => ⟨hf0, rfl, rfl⟩⟩
          · exact same
      obtain ⟨c0, c1, t0, t1, s0, s1, run, win, fa, idle⟩ := hc
      exact ⟨c0, c1, t0, t1, s0, s1, run, win, fa, idle⟩
  split
  · split
    · exact same
    · rename_i hx
      have he : t.en = false := by cases h : t.en <;> simp_all
      obtain ⟨_, hsi, har⟩ := idle he
      exact ⟨v0, v1, t0, t1, s0, s1, run, fun h => absurd (h.symm.trans he) (by decide), fa, idle⟩
  split
  · split
    · exact same
    · rename_i hx
      have he : t.en = false := by cases h : t.en <;> simp_all
      obtain ⟨_, hsi, har⟩ := idle he
      exact ⟨c0, c1, v0, v1, s0, by show t.si ≤ v; omega, fun h => absurd (h.symm.trans he) (by decide), fun h => absurd (h.symm.trans he) (by decide), fa, idle⟩
  split
  · unfold Wd.key
    split
    · exact same
    rename_i hen
    have he : t.en = true := by cases h : t.en <;> simp_all
    have nid : t.en = false → False := fun h => absurd (he.symm.trans h) (by decide)
    have hw := win he
    split
    · exact ⟨c0, c1, t0, t1, s0, s1, run, win, fa, fun h => (nid h).elim⟩
    split
    · split
      · exact ⟨c0, c1, t0, t1, s0, s1, fun _ h => absurd h (show ¬ (4 : Int) = 0 by decide), win, .inr (.inr (.inl rfl)), fun h => (nid h).elim⟩
      · exact ⟨c0, c1, t0, t1, Int.le_refl _, t0, fun _ _ => by show 0 < t.tot; omega, win, fa, fun h => (nid h).elim⟩
    split
    · exact ⟨c0, c1, t0, t1, s0, s1, fun _ h => absurd h (show ¬ (8 : Int) = 0 by decide), win, .inr (.inr (.inr rfl)), fun h => (nid h).elim⟩
    · exact ⟨c0, c1, t0, t1, s0, s1, run, win, fa, fun h => (nid h).elim⟩
  · exact same
end Go.Proofs.Ytlgdlmhgifhchaa.B
