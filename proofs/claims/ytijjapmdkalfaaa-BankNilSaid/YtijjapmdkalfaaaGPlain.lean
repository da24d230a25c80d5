/- Layer 7 (bank) in plain numbers: words of timers' truths, the least left and whose it is. -/
import Derived.Test.YtijjapmdkalfaaaNR
namespace Go.Proofs.Ytijjapmdkalfaaa.B
set_option linter.unusedVariables false
set_option linter.unusedSimpArgs false
open Go.ChangeShapes Go.WideShapes Go.RowKit Go.Sort
theorem ofBits_pow (f : Nat → Bool) (k : Nat) : ofBits f k < 2 ^ k := ofBits_lt f k
/-- A bit more, by '|'. -/
theorem or_un (f : Nat → Bool) (k : Nat) (h : k < 32) : bits BinOp.or IntKind.u32 (ob f k) (un k) = ob f k + un k := by
  have h1 := ob_bounds f k (by omega)
  have h2 := un_bounds k
  rw [or_nat _ _ h1.1 h1.2 h2.1 h2.2, un_pow k h]
  unfold ob
  rw [Int.toNat_natCast, Int.toNat_natCast, Nat.or_comm]
  have := Nat.two_pow_add_eq_or_of_lt (ofBits_lt f k) 1
  rw [Nat.mul_one] at this
  rw [← this]
  omega
theorem or_yes (f : Nat → Bool) (k : Nat) (h : k < 32) (hf : f k = true) : bits BinOp.or IntKind.u32 (ob f k) (un k) = ob f (k + 1) := by rw [or_un f k h, ob_yes f k h hf]
theorem ob_congr (f g : Nat → Bool) : ∀ k : Nat, (∀ i, i < k → f i = g i) → ob f k = ob g k := by
  intro k
  induction k with
  | zero => intro _; rfl
  | succ k ih =>
    intro h
    have h1 := ih fun i hi => h i (by omega)
    have h2 := h k (by omega)
    unfold ob at h1 ⊢
    unfold ofBits
    rw [h2]
    have h3 : ofBits f k = ofBits g k := by omega
    rw [h3]
def nvr : Int := 18446744073709551615
/-- Of the timers from a on below b: the least left, and the least one that has it. -/
def Best (t : Nat → Tm) (a b : Nat) (m i : Int) : Prop :=
  (i = -1 ∧ m = nvr ∧ ∀ k, a ≤ k → k < b → (t k).en = false) ∨
  ∃ j : Nat, i = j ∧ a ≤ j ∧ j < b ∧ (t j).en = true ∧ m = (t j).left ∧ ∀ k, a ≤ k → k < b → (t k).en = true → m ≤ (t k).left ∧ (k < j → m < (t k).left)
theorem best_nil (t : Nat → Tm) (a : Nat) : Best t a a nvr (-1) := .inl ⟨rfl, rfl, fun k h1 h2 => by omega⟩
theorem Best.bounds {t : Nat → Tm} {a b : Nat} {m i : Int} (h : Best t a b m i) (ok : ∀ k, k < b → (t k).ok) : 1 ≤ m ∧ m ≤ nvr := by
  unfold nvr
  rcases h with ⟨_, rfl, _⟩ | ⟨j, _, _, hj, _, rfl, _⟩
  · unfold nvr; omega
  · have := (ok j hj).left; omega
theorem Best.place {t : Nat → Tm} {a b : Nat} {m i : Int} (h : Best t a b m i) : -1 ≤ i ∧ i < b ∨ i = -1 := by
  rcases h with ⟨rfl, _⟩ | ⟨j, rfl, _, hj, _⟩
  · exact .inr rfl
  · exact .inl (by omega)
theorem Best.same {t : Nat → Tm} {a b : Nat} {m i m' i' : Int} (h : Best t a b m i) (h' : Best t a b m' i') : m = m' ∧ i = i' := by
  rcases h with ⟨rfl, rfl, h⟩ | ⟨j, rfl, a1, b1, e1, rfl, h⟩ <;> rcases h' with ⟨rfl, rfl, h'⟩ | ⟨j', rfl, a2, b2, e2, rfl, h'⟩
  · exact ⟨rfl, rfl⟩
  · rw [h j' a2 b2] at e2; cases e2
  · rw [h' j a1 b1] at e1; cases e1
  · have h1 := h j' a2 b2 e2
    have h2 := h' j a1 b1 e1
    have : j = j' := by
      rcases Nat.lt_trichotomy j j' with c | c | c
      · have := h2.2 c; omega
      · exact c
      · have := h1.2 c; omega
    subst this
    exact ⟨rfl, rfl⟩
theorem Best.congr {t s : Nat → Tm} {a b : Nat} {m i : Int} (h : Best t a b m i) (hs : ∀ k, a ≤ k → k < b → t k = s k) : Best s a b m i := by
  rcases h with ⟨rfl, rfl, h⟩ | ⟨j, rfl, a1, b1, e1, rfl, h⟩
  · exact .inl ⟨rfl, rfl, fun k h1 h2 => by rw [← hs k h1 h2]; exact h k h1 h2⟩
  · refine .inr ⟨j, rfl, a1, b1, by rw [← hs j a1 b1]; exact e1, by rw [hs j a1 b1], fun k h1 h2 e => ?_⟩
    rw [← hs k h1 h2] at e ⊢
    exact h k h1 h2 e
/-- What Left tells of a timer that may not run. -/
theorem lef_bounds {t : Tm} (h : t.ok) : 1 ≤ t.lef ∧ t.lef ≤ nvr := by
  have := h.left
  unfold Tm.lef nvr
  split <;> omega
theorem lef_never {t : Tm} (h : t.ok) : nvr ≤ t.lef → t.en = false := by
  intro hn
  have := h.left
  unfold Tm.lef nvr at hn
  cases he : t.en
  · rfl
  · rw [he, if_pos rfl] at hn; omega
/-- From the first on. -/
theorem Best.skip {t : Nat → Tm} {k : Nat} {m i : Int} (h : Best t 0 k m i) (ok : (t k).ok) (hl : m ≤ (t k).lef) : Best t 0 (k + 1) m i := by
  rcases h with ⟨rfl, rfl, h⟩ | ⟨j, rfl, a1, b1, e1, rfl, h⟩
  · refine .inl ⟨rfl, rfl, fun q h1 h2 => ?_⟩
    by_cases hq : q = k
    · subst hq; exact lef_never ok hl
    · exact h q h1 (by omega)
  · refine .inr ⟨j, rfl, a1, by omega, e1, rfl, fun q h1 h2 e => ?_⟩
    by_cases hq : q = k
    · subst hq
      unfold Tm.lef at hl
      rw [if_pos e] at hl
      exact ⟨hl, fun hj => by omega⟩
    · exact h q h1 (by omega) e
theorem Best.take {t : Nat → Tm} {k : Nat} {m i : Int} (h : Best t 0 k m i) (hok : ∀ q, q < k → (t q).ok) (ok : (t k).ok) (hl : (t k).lef < m) : Best t 0 (k + 1) (t k).lef k := by
  have hm := (h.bounds hok).2
  have he : (t k).en = true := by
    cases he : (t k).en
    · unfold Tm.lef at hl
      rw [he] at hl
      unfold nvr at hm
      simp at hl
      omega
    · rfl
  have hlf : (t k).lef = (t k).left := by unfold Tm.lef; rw [if_pos he]
  rw [hlf] at hl ⊢
  refine .inr ⟨k, rfl, by omega, by omega, he, rfl, fun q h1 h2 e => ?_⟩
  by_cases hq : q = k
  · subst hq; exact ⟨Int.le_refl _, fun hj => by omega⟩
  · rcases h with ⟨rfl, rfl, h⟩ | ⟨j, rfl, a1, b1, e1, rfl, h⟩
    · rw [h q h1 (by omega)] at e; cases e
    · have := h q h1 (by omega) e
      exact ⟨by omega, fun _ => by omega⟩
/-- From the last on, down. -/
theorem Best.keep {t : Nat → Tm} {k n : Nat} {m i : Int} (h : Best t (k + 1) n m i) (ok : (t k).ok) (hl : ((t k).en = true → m < (t k).left)) : Best t k n m i := by
  rcases h with ⟨rfl, rfl, h⟩ | ⟨j, rfl, a1, b1, e1, rfl, h⟩
  · refine .inl ⟨rfl, rfl, fun q h1 h2 => ?_⟩
    by_cases hq : q = k
    · subst hq
      cases he : (t q).en
      · rfl
      · have := hl he
        have := ok.left
        unfold nvr at *
        omega
    · exact h q (by omega) h2
  · refine .inr ⟨j, rfl, by omega, b1, e1, rfl, fun q h1 h2 e => ?_⟩
    by_cases hq : q = k
    · subst hq; have := hl e; exact ⟨by omega, fun _ => this⟩
    · exact h q (by omega) h2 e
theorem Best.put {t : Nat → Tm} {k n : Nat} {m i : Int} (h : Best t (k + 1) n m i) (hk : k < n) (he : (t k).en = true) (hl : (t k).left ≤ m) : Best t k n (t k).left k := by
  refine .inr ⟨k, rfl, Nat.le_refl _, hk, he, rfl, fun q h1 h2 e => ?_⟩
  by_cases hq : q = k
  · subst hq; exact ⟨Int.le_refl _, fun hj => by omega⟩
  · rcases h with ⟨rfl, rfl, h⟩ | ⟨j, rfl, a1, b1, e1, rfl, h⟩
    · rw [h q (by omega) h2] at e; cases e
    · have := h q (by omega) h2 e
      exact ⟨by omega, fun hj => by omega⟩
/-- There is one. -/
theorem best_some (t : Nat → Tm) : ∀ n : Nat, (∀ k, k < n → (t k).ok) → ∃ m i : Int, Best t 0 n m i := by
  intro n
  induction n with
  | zero => intro _; exact ⟨_, _, best_nil t 0⟩
  | succ n ih =>
    intro ok
    obtain ⟨m, i, h⟩ := ih fun k hk => ok k (by omega)
    by_cases hl : m ≤ (t n).lef
    · exact ⟨m, i, h.skip (ok n (by omega)) hl⟩
    · exact ⟨_, _, h.take (fun q hq => ok q (by omega)) (ok n (by omega)) (by omega)⟩
/-- One timer turned. -/
def upd1 (t : Nat → Tm) (i : Nat) (s : Tm) : Nat → Tm := fun k => if k = i then s else t k
theorem upd1_at (t : Nat → Tm) (i : Nat) (s : Tm) : upd1 t i s i = s := if_pos rfl
theorem upd1_ne (t : Nat → Tm) {i k : Nat} (s : Tm) (h : k ≠ i) : upd1 t i s k = t k := if_neg h
/-- A bank's errors and values. -/
def kErr (n : Nat) (o : Int) : Int := if (o % 4 != 0) = true then 11 else if (n : Int) ≤ o / 32 then 10 else 0
end Go.Proofs.Ytijjapmdkalfaaa.B
