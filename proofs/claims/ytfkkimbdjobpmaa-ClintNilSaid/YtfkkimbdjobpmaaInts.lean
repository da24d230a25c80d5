/- Rows of integers by value: a function's first values; one of them set. -/
import Derived.Test.YtfkkimbdjobpmaaArr
namespace Go.Proofs.Ytfkkimbdjobpmaa.B
set_option linter.unusedVariables false
set_option linter.unusedSimpArgs false
open Go.RowKit Go.Sort
/-- A function, with another value at one place. -/
def upd (f : Nat → Int) (h : Nat) (v : Int) : Nat → Int := fun i => if i = h then v else f i
theorem upd_at (f : Nat → Int) (h : Nat) (v : Int) : upd f h v h = v := by unfold upd; rw [if_pos rfl]
theorem upd_ne (f : Nat → Int) {h i : Nat} (v : Int) (hi : i ≠ h) : upd f h v i = f i := by unfold upd; rw [if_neg hi]
theorem upd_same (f : Nat → Int) (h : Nat) : upd f h (f h) = f := by
  funext i; unfold upd; split
  · rename_i e; rw [e]
  · rfl
def il (k : IntKind) (f : Nat → Int) (n : Nat) : List Value := (List.range n).map fun i => .int k (f i)
theorem il_len (k : IntKind) (f : Nat → Int) (n : Nat) : (il k f n).length = n := by simp [il]
theorem il_one (k : IntKind) (f : Nat → Int) (n : Nat) : ∀ v ∈ il k f n, v.oneCell' = true := by
  intro v h
  obtain ⟨i, _, rfl⟩ := List.mem_map.1 h
  rfl
theorem il_get (k : IntKind) (f : Nat → Int) (n i : Nat) (h : i < n) : (il k f n)[i]? = some (.int k (f i)) := by simp [il, h]
theorem il_congr (k : IntKind) (f g : Nat → Int) (n : Nat) (h : ∀ i, i < n → f i = g i) : il k f n = il k g n := by
  unfold il
  exact List.map_congr_left fun i hi => by rw [h i (by simpa using hi)]
theorem il_set (k : IntKind) (f : Nat → Int) (n h : Nat) (v : Int) : (il k f n).set h (.int k v) = il k (upd f h v) n := by
  apply List.ext_getElem?
  intro i
  by_cases hi : i < n
  · rw [il_get _ _ _ _ hi, List.getElem?_set]
    by_cases e : h = i
    · subst e; simp [il_len, hi, upd_at]
    · rw [if_neg e, upd_ne _ _ (fun h => e h.symm), il_get _ _ _ _ hi]
  · rw [List.getElem?_eq_none (by simp [il_len]; omega), List.getElem?_eq_none (by simp [il_len]; omega)]
/-- The list's cell at a place behind others. -/
theorem app_get (xs ys : List Value) (n i : Nat) (h : xs.length = n) : (xs ++ ys)[n + i]? = ys[i]? := by
  subst h; rw [List.getElem?_append_right (by omega)]; congr 1; omega
theorem app_left (xs ys : List Value) (i : Nat) (h : i < xs.length) : (xs ++ ys)[i]? = xs[i]? := List.getElem?_append_left h
theorem app_set (xs ys : List Value) (n i : Nat) (v : Value) (h : xs.length = n) : (xs ++ ys).set (n + i) v = xs ++ ys.set i v := by
  subst h; rw [List.set_append_right _ _ (by omega)]; congr 2; omega
theorem app_set_left (xs ys : List Value) (i : Nat) (v : Value) (h : i < xs.length) : (xs ++ ys).set i v = xs.set i v ++ ys := List.set_append_left _ _ h
end Go.Proofs.Ytfkkimbdjobpmaa.B
