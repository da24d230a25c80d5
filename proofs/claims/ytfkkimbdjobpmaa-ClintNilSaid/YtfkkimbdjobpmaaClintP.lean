/- The clint in plain numbers: its registers' places, what is read and written there. -/
import Derived.Test.YtfkkimbdjobpmaaBPlain
import Derived.Test.YtfkkimbdjobpmaaKey
import Derived.Test.YtfkkimbdjobpmaaInts
namespace Go.Proofs.Ytfkkimbdjobpmaa.B
set_option linter.unusedVariables false
set_option linter.unusedSimpArgs false
open Go.ChangeShapes Go.WideShapes Go.RowKit Go.Sort
theorem ne4 {x : Int} (h : x % 4 = 0) : (x % 4 != 0) = false := by simp [h]
def regV (k h : Int) : Value := .agg #[.int .i64 k, .int .i64 h]
/-- The registers of so many harts by their places. -/
def lay : Nat → List (Int × Value)
  | 0 => [(49148, regV 4 0), (49144, regV 3 0)]
  | k + 1 => (16384 + 8 * (k : Int) + 4, regV 2 k) :: (16384 + 8 * (k : Int), regV 1 k) :: (4 * (k : Int), regV 0 k) :: lay k
theorem lay_mem (n : Nat) (p : Int × Value) : p ∈ lay n ↔ p = (49148, regV 4 0) ∨ p = (49144, regV 3 0) ∨ ∃ h : Nat, h < n ∧ (p = (16384 + 8 * (h : Int) + 4, regV 2 h) ∨ p = (16384 + 8 * (h : Int), regV 1 h) ∨ p = (4 * (h : Int), regV 0 h)) := by
  induction n with
  | zero => simp [lay]
  | succ k ih =>
    simp only [lay, List.mem_cons, ih]
    constructor
    · rintro (h | h | h | h | h | ⟨j, hj, h⟩)
      · exact .inr (.inr ⟨k, by omega, .inl h⟩)
      · exact .inr (.inr ⟨k, by omega, .inr (.inl h)⟩)
      · exact .inr (.inr ⟨k, by omega, .inr (.inr h)⟩)
      · exact .inl h
      · exact .inr (.inl h)
      · exact .inr (.inr ⟨j, by omega, h⟩)
    · rintro (h | h | ⟨j, hj, h⟩)
      · exact .inr (.inr (.inr (.inl h)))
      · exact .inr (.inr (.inr (.inr (.inl h))))
      · by_cases e : j = k
        · subst e
          rcases h with h | h | h
          · exact .inl h
          · exact .inr (.inl h)
          · exact .inr (.inr (.inl h))
        · exact .inr (.inr (.inr (.inr (.inr ⟨j, by omega, h⟩))))
theorem lay_key (n : Nat) (p : Int × Value) (h : p ∈ lay n) : p.1 = 49148 ∨ p.1 = 49144 ∨ ∃ h : Nat, h < n ∧ (p.1 = 16384 + 8 * (h : Int) + 4 ∨ p.1 = 16384 + 8 * (h : Int) ∨ p.1 = 4 * (h : Int)) := by
  rcases (lay_mem n p).1 h with rfl | rfl | ⟨j, hj, rfl | rfl | rfl⟩
  · exact .inl rfl
  · exact .inr (.inl rfl)
  · exact .inr (.inr ⟨j, hj, .inl rfl⟩)
  · exact .inr (.inr ⟨j, hj, .inr (.inl rfl)⟩)
  · exact .inr (.inr ⟨j, hj, .inr (.inr rfl)⟩)
/-- What a place is: its register's kind and hart. -/
inductive At (n : Nat) (o : Int) : Prop
  | odd (h : o % 4 ≠ 0)
  | lo (h : o = 49144)
  | hi (h : o = 49148)
  | soft (h : Nat) (hn : h < n) (e : o = 4 * (h : Int))
  | low (h : Nat) (hn : h < n) (e : o = 16384 + 8 * (h : Int))
  | high (h : Nat) (hn : h < n) (e : o = 16384 + 8 * (h : Int) + 4)
  | none (h4 : o % 4 = 0) (h1 : o ≠ 49144) (h2 : o ≠ 49148) (h : ∀ h : Nat, h < n → o ≠ 4 * (h : Int) ∧ o ≠ 16384 + 8 * (h : Int) ∧ o ≠ 16384 + 8 * (h : Int) + 4)
theorem at_all (n : Nat) (o : Int) : At n o := by
  by_cases h4 : o % 4 = 0
  · by_cases h1 : o = 49144
    · exact .lo h1
    · by_cases h2 : o = 49148
      · exact .hi h2
      · by_cases h : ∃ h : Nat, h < n ∧ (o = 4 * (h : Int) ∨ o = 16384 + 8 * (h : Int) ∨ o = 16384 + 8 * (h : Int) + 4)
        · obtain ⟨j, hj, h | h | h⟩ := h
          · exact .soft j hj h
          · exact .low j hj h
          · exact .high j hj h
        · refine .none h4 h1 h2 fun j hj => ⟨fun e => h ⟨j, hj, .inl e⟩, fun e => h ⟨j, hj, .inr (.inl e)⟩, fun e => h ⟨j, hj, .inr (.inr e)⟩⟩
  · exact .odd h4
theorem lay_none (n : Nat) (o : Int) (h1 : o ≠ 49144) (h2 : o ≠ 49148) (h : ∀ h : Nat, h < n → o ≠ 4 * (h : Int) ∧ o ≠ 16384 + 8 * (h : Int) ∧ o ≠ 16384 + 8 * (h : Int) + 4) : ∀ p ∈ lay n, p.1 ≠ o := by
  intro p hp e
  rcases lay_key n p hp with g | g | ⟨j, hj, g | g | g⟩
  · exact h2 (by rw [← e, g])
  · exact h1 (by rw [← e, g])
  · exact (h j hj).2.2 (by rw [← e, g])
  · exact (h j hj).2.1 (by rw [← e, g])
  · exact (h j hj).1 (by rw [← e, g])
/-- The error of a read; what is read; the error of a write; what is written. -/
def cHart (n : Nat) (o : Int) : Prop := (0 ≤ o ∧ o < 4 * (n : Int)) ∨ (16384 ≤ o ∧ o < 16384 + 8 * (n : Int))
instance (n : Nat) (o : Int) : Decidable (cHart n o) := by unfold cHart; exact inferInstance
def cErr (n : Nat) (o : Int) : Int := if o % 4 ≠ 0 then 11 else if o = 49144 ∨ o = 49148 ∨ cHart n o then 0 else 10
def cVal (t : Int) (n : Nat) (D S : Nat → Int) (o : Int) : Int :=
  if cErr n o ≠ 0 then 0 else if o = 49144 then lo t else if o = 49148 then hi t else if o < 16384 then S (o / 4).toNat
  else if o % 8 = 0 then lo (D ((o - 16384) / 8).toNat) else hi (D ((o - 16384) / 8).toNat)
def cErrS (n : Nat) (o : Int) : Int := if cErr n o ≠ 0 then cErr n o else if 49144 ≤ o then 12 else 0
def cPutS (n : Nat) (S : Nat → Int) (o v : Int) : Nat → Int := if cErrS n o = 0 ∧ o < 16384 then upd S (o / 4).toNat (v % 2) else S
def cPutD (n : Nat) (D : Nat → Int) (o v : Int) : Nat → Int :=
  if cErrS n o = 0 ∧ 16384 ≤ o then
    if o % 8 = 0 then upd D ((o - 16384) / 8).toNat (join (hi (D ((o - 16384) / 8).toNat)) v) else upd D ((o - 16384) / 8).toNat (join v (lo (D ((o - 16384) / 8).toNat)))
  else D
section
variable {t : Int} {n : Nat} {D S : Nat → Int} {v : Int}
theorem odd_err {o : Int} (h : o % 4 ≠ 0) : cErr n o = 11 := by unfold cErr; rw [if_pos h]
theorem none_err {o : Int} (o0 : 0 ≤ o) (h4 : o % 4 = 0) (h1 : o ≠ 49144) (h2 : o ≠ 49148) (h : ∀ h : Nat, h < n → o ≠ 4 * (h : Int) ∧ o ≠ 16384 + 8 * (h : Int) ∧ o ≠ 16384 + 8 * (h : Int) + 4) : cErr n o = 10 := by
  unfold cErr
  rw [if_neg (by omega), if_neg]
  rintro (e | e | e | e)
  · exact h1 e
  · exact h2 e
  · have := (h (o / 4).toNat (by omega)).1; omega
  · have := (h ((o - 16384) / 8).toNat (by omega)).2; omega
theorem err_val {o : Int} (h : cErr n o ≠ 0) : cVal t n D S o = 0 := by unfold cVal; rw [if_pos h]
theorem err_errS {o : Int} (h : cErr n o ≠ 0) : cErrS n o = cErr n o := by unfold cErrS; rw [if_pos h]
theorem err_putS {o : Int} (h : cErrS n o ≠ 0) : cPutS n S o v = S := by unfold cPutS; rw [if_neg (fun e => h e.1)]
theorem err_putD {o : Int} (h : cErrS n o ≠ 0) : cPutD n D o v = D := by unfold cPutD; rw [if_neg (fun e => h e.1)]
theorem lo_err : cErr n 49144 = 0 := by unfold cErr; simp
theorem hi_err : cErr n 49148 = 0 := by unfold cErr; simp
theorem lo_val : cVal t n D S 49144 = lo t := by unfold cVal; rw [if_neg (by rw [lo_err]; simp), if_pos rfl]
theorem hi_val : cVal t n D S 49148 = hi t := by unfold cVal; rw [if_neg (by rw [hi_err]; simp), if_neg (by omega), if_pos rfl]
theorem lo_errS : cErrS n 49144 = 12 := by unfold cErrS; rw [if_neg (by rw [lo_err]; simp), if_pos (by omega)]
theorem hi_errS : cErrS n 49148 = 12 := by unfold cErrS; rw [if_neg (by rw [hi_err]; simp), if_pos (by omega)]
variable {h : Nat}
theorem soft_err (hn : h < n) : cErr n (4 * (h : Int)) = 0 := by unfold cErr; rw [if_neg (by omega), if_pos (.inr (.inr (.inl (by omega))))]
theorem low_err (hn : h < n) : cErr n (16384 + 8 * (h : Int)) = 0 := by unfold cErr; rw [if_neg (by omega), if_pos (.inr (.inr (.inr (by omega))))]
theorem high_err (hn : h < n) : cErr n (16384 + 8 * (h : Int) + 4) = 0 := by unfold cErr; rw [if_neg (by omega), if_pos (.inr (.inr (.inr (by omega))))]
theorem soft_val (hn : h < n) (h8 : n ≤ 8) : cVal t n D S (4 * (h : Int)) = S h := by
  unfold cVal; rw [if_neg (by rw [soft_err hn]; simp), if_neg (by omega), if_neg (by omega), if_pos (by omega)]; congr 1; omega
theorem low_val (hn : h < n) (h8 : n ≤ 8) : cVal t n D S (16384 + 8 * (h : Int)) = lo (D h) := by
  unfold cVal; rw [if_neg (by rw [low_err hn]; simp), if_neg (by omega), if_neg (by omega), if_neg (by omega), if_pos (by omega)]; congr 2; omega
theorem high_val (hn : h < n) (h8 : n ≤ 8) : cVal t n D S (16384 + 8 * (h : Int) + 4) = hi (D h) := by
  unfold cVal; rw [if_neg (by rw [high_err hn]; simp), if_neg (by omega), if_neg (by omega), if_neg (by omega), if_neg (by omega)]; congr 2; omega
theorem soft_errS (hn : h < n) (h8 : n ≤ 8) : cErrS n (4 * (h : Int)) = 0 := by unfold cErrS; rw [if_neg (by rw [soft_err hn]; simp), if_neg (by omega)]
theorem low_errS (hn : h < n) (h8 : n ≤ 8) : cErrS n (16384 + 8 * (h : Int)) = 0 := by unfold cErrS; rw [if_neg (by rw [low_err hn]; simp), if_neg (by omega)]
theorem high_errS (hn : h < n) (h8 : n ≤ 8) : cErrS n (16384 + 8 * (h : Int) + 4) = 0 := by unfold cErrS; rw [if_neg (by rw [high_err hn]; simp), if_neg (by omega)]
theorem soft_putS (hn : h < n) (h8 : n ≤ 8) : cPutS n S (4 * (h : Int)) v = upd S h (v % 2) := by
  unfold cPutS; rw [if_pos ⟨soft_errS hn h8, by omega⟩]; congr 1; omega
theorem soft_putD (hn : h < n) (h8 : n ≤ 8) : cPutD n D (4 * (h : Int)) v = D := by unfold cPutD; rw [if_neg (by omega)]
theorem low_putS (hn : h < n) : cPutS n S (16384 + 8 * (h : Int)) v = S := by unfold cPutS; rw [if_neg (by omega)]
theorem high_putS (hn : h < n) : cPutS n S (16384 + 8 * (h : Int) + 4) v = S := by unfold cPutS; rw [if_neg (by omega)]
theorem low_putD (hn : h < n) (h8 : n ≤ 8) : cPutD n D (16384 + 8 * (h : Int)) v = upd D h (join (hi (D h)) v) := by
  have e : ((16384 + 8 * (h : Int) - 16384) / 8).toNat = h := by omega
  unfold cPutD; rw [if_pos ⟨low_errS hn h8, by omega⟩, if_pos (by omega), e]
theorem high_putD (hn : h < n) (h8 : n ≤ 8) : cPutD n D (16384 + 8 * (h : Int) + 4) v = upd D h (join v (lo (D h))) := by
  have e : ((16384 + 8 * (h : Int) + 4 - 16384) / 8).toNat = h := by omega
  unfold cPutD; rw [if_pos ⟨high_errS hn h8, by omega⟩, if_neg (by omega), e]
end
/-- Bounds. -/
def okD (D : Nat → Int) : Prop := ∀ i, 0 ≤ D i ∧ D i < 18446744073709551616
def okS (S : Nat → Int) : Prop := ∀ i, 0 ≤ S i ∧ S i < 4294967296
theorem okD.upd {D : Nat → Int} (h : okD D) (k : Nat) {v : Int} (v0 : 0 ≤ v) (v1 : v < 18446744073709551616) : okD (upd D k v) := fun i => by
  unfold B.upd; split
  · exact ⟨v0, v1⟩
  · exact h i
theorem okS.upd {S : Nat → Int} (h : okS S) (k : Nat) {v : Int} (v0 : 0 ≤ v) (v1 : v < 4294967296) : okS (upd S k v) := fun i => by
  unfold B.upd; split
  · exact ⟨v0, v1⟩
  · exact h i
theorem join_bounds {h l : Int} (h0 : 0 ≤ h) (h1 : h < 4294967296) (l0 : 0 ≤ l) (l1 : l < 4294967296) : 0 ≤ join h l ∧ join h l < 18446744073709551616 := by unfold join; omega
theorem lo_join {h l : Int} (l0 : 0 ≤ l) (l1 : l < 4294967296) : lo (join h l) = l := by unfold lo join; omega
theorem hi_join {h l : Int} (l0 : 0 ≤ l) (l1 : l < 4294967296) : hi (join h l) = h := by unfold hi join; omega
theorem addS_bounds {a b : Int} (a0 : 0 ≤ a) (a1 : a < 18446744073709551616) (b0 : 0 ≤ b) (b1 : b < 18446744073709551616) : 0 ≤ addS a b ∧ addS a b < 18446744073709551616 := by unfold addS; split <;> omega
theorem putM_new {x : Int} {v : Value} {M : List (Int × Value)} (h : ∀ p ∈ M, p.1 ≠ x) : putM x v M = (x, v) :: M := by
  unfold putM
  rw [List.filter_eq_self.2 fun p hp => by simpa using h p hp]
end Go.Proofs.Ytfkkimbdjobpmaa.B
