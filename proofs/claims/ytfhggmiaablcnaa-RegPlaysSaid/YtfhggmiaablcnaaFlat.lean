/- Rows of things of several cells each: where each lies. -/
import Derived.Test.YtfhggmiaablcnaaMap
import Derived.Laws.AppendOwn
import Derived.Laws.OwnMore
namespace Go.Proofs.Ytfhggmiaablcnaa.B
set_option linter.unusedVariables false
set_option linter.unusedSimpArgs false
open Go.ChangeShapes Go.WideShapes Go.RowKit Go.Sort
theorem flat_len {α : Type} (f : α → List Value) (n : Nat) (h : ∀ x, (f x).length = n) : ∀ L : List α, (L.flatMap f).length = L.length * n
  | [] => by simp
  | x :: L => by rw [List.flatMap_cons, List.length_append, h, flat_len f n h L, List.length_cons, Nat.add_mul]; omega
theorem flat_at {α : Type} (f : α → List Value) (n : Nat) (h : ∀ x, (f x).length = n) : ∀ (L : List α) (k j : Nat) (x : α), L[k]? = some x → j < n → (L.flatMap f)[k * n + j]? = (f x)[j]?
  | [], k, j, x, hx, _ => by simp at hx
  | y :: L, 0, j, x, hx, hj => by
    simp at hx; subst hx
    rw [List.flatMap_cons, Nat.zero_mul, Nat.zero_add, List.getElem?_append_left (by rw [h]; exact hj)]
  | y :: L, k + 1, j, x, hx, hj => by
    rw [List.flatMap_cons, List.getElem?_append_right (by rw [h, Nat.add_mul]; omega), h, show (k + 1) * n + j - n = k * n + j by rw [Nat.add_mul]; omega]
    exact flat_at f n h L k j x (by simpa using hx) hj
/-- The cells of an owned row of things. -/
theorem row_cell {α : Type} {f : α → List Value} {n : Nat} (h : ∀ x, (f x).length = n) {w : World} {base : Nat} {e : TypeId} {v : Value} {L : List α} (ho : w.ownsRow base e n v L.length (L.flatMap f)) {g cap : Nat} (hv : v = .slice (some ⟨g, 0, none⟩) L.length cap)
    {k : Nat} {x : α} (hx : L[k]? = some x) (j : Nat) (hj : j < n) : w.cell? ⟨g, k * n + j, none⟩ = (f x)[j]? := by
  subst hv
  have hk : k < L.length := (List.getElem?_eq_some_iff.1 hx).1
  have hb : k * n + j < L.length * n := by
    have : (k + 1) * n ≤ L.length * n := Nat.mul_le_mul_right n hk
    rw [Nat.add_mul] at this; omega
  rw [ho.cellAt _ hb]
  exact flat_at f n h L k j x hx hj
theorem row_form {w : World} {base : Nat} {e : TypeId} {n m : Nat} {v : Value} {xs : List Value} (ho : w.ownsRow base e n v m xs) :
    (v = .slice none 0 0 ∧ m = 0) ∨ ∃ g cap, v = .slice (some ⟨g, 0, none⟩) m cap ∧ m ≤ cap ∧ cap ≤ maxLen ∧ g < w.heap.size ∧ ∃ cur, w.heap[g]? = some (.cells cur e (0, 0)) := by
  rcases ho.2 with h | ⟨g, cap, cur, h1, _, h2, h3, h4, _, _⟩
  · exact .inl h
  · exact .inr ⟨g, cap, h1, h3, h4, lt_of_block h2, cur, h2⟩
end Go.Proofs.Ytfhggmiaablcnaa.B
