/- What shapes of arguments say to a walk: integers with their bounds, rows of integers. -/
import Derived.Test.YteaanlemmhnpgaaKit
import Derived.Test.YteaanlemmhnpgaaOpen
namespace Go.Proofs.Yteaanlemmhnpgaa.B
set_option linter.unusedVariables false
set_option linter.unusedSimpArgs false
open Go.ChangeShapes Go.WideShapes Go.RowKit Go.Sort
theorem fits_int {k : IntKind} {w : World} {v : Value} (h : FitsV w (.int k) v) : ∃ a : Int, v = .int k a ∧ (Lit.int k a).wf = true := by
  obtain ⟨a, e, ha⟩ := h
  exact ⟨a, by simpa using e, ha⟩
theorem fits_u32 {w : World} {v : Value} (h : FitsV w (.int .u32) v) : ∃ a : Int, v = .int .u32 a ∧ 0 ≤ a ∧ a < 4294967296 := by
  obtain ⟨a, e, ha⟩ := fits_int h
  have := bounds_u32 ha
  exact ⟨a, e, by omega, by omega⟩
theorem fits_u64 {w : World} {v : Value} (h : FitsV w (.int .u64) v) : ∃ a : Int, v = .int .u64 a ∧ 0 ≤ a ∧ a < 18446744073709551616 := by
  obtain ⟨a, e, ha⟩ := fits_int h
  have := bounds_u64 ha
  exact ⟨a, e, by omega, by omega⟩
theorem fits_i64 {w : World} {v : Value} (h : FitsV w (.int .i64) v) : ∃ a : Int, v = .int .i64 a ∧ -9223372036854775808 ≤ a ∧ a < 9223372036854775808 := by
  obtain ⟨a, e, ha⟩ := fits_int h
  have := bounds_i64 ha
  exact ⟨a, e, by omega, by omega⟩
theorem fits_bool {w : World} {v : Value} (h : FitsV w .bool v) : ∃ b : Bool, v = .bool b := by
  obtain ⟨b, e⟩ := h
  exact ⟨b, by simpa using e⟩
theorem add_form (b o i : Nat) : (⟨b, o, none⟩ : Addr).add i = ⟨b, o + i, none⟩ := by
  unfold Addr.add
  split
  · rename_i h; subst h; rfl
  · rfl
theorem addr_of_cell {w : World} {x : Addr} {v : Value} (h : w.cell? (x.add 0) = some v) : x = ⟨x.block, x.off, none⟩ ∧ x.block < w.heap.size := by
  have e : x.add 0 = x := by unfold Addr.add; rw [if_pos rfl]
  rw [e] at h
  have h1 := World.cell?_spot h
  obtain ⟨b, o, s⟩ := x
  simp only at h1
  subst h1
  exact ⟨rfl, block_lt_of_cell h⟩
/-- A slice that came in: without elements; or a row whose cells are known. -/
theorem fits_slice {e : Sh} {w : World} {v : Value} (h : FitsV w (.slice e) v) (he : 0 < e.size) : ∃ y len cap, v = .slice y len cap ∧ (len = 0 ∨ ∃ b off, y = some ⟨b, off, none⟩ ∧ len ≤ cap ∧ cap ≤ maxLen ∧ b < w.heap.size ∧
    ∀ i, i < cap → ∃ cs : List Value, cs.length = e.size ∧ (∀ j, j < e.size → w.cell? ⟨b, off + (i * e.size + j), none⟩ = cs[j]?) ∧ Fits w e cs) := by
  rcases h with h | ⟨x, len, cap, h, h1, h2, h3⟩
  · exact ⟨none, 0, 0, by simpa using h, .inl rfl⟩
  have hv : v = .slice (some x) len cap := by simpa using h
  by_cases hc : cap = 0
  · exact ⟨_, _, _, hv, .inl (by omega)⟩
  obtain ⟨cs0, hl0, hc0, _⟩ := h3 0 (by omega)
  have g0 := hc0 0 he
  rw [List.getElem?_eq_getElem (by omega)] at g0
  rw [Nat.zero_mul, Nat.zero_add] at g0
  obtain ⟨hx, hb⟩ := addr_of_cell g0
  refine ⟨_, _, _, hv, .inr ⟨x.block, x.off, by rw [← hx], h1, h2, hb, fun i hi => ?_⟩⟩
  obtain ⟨cs, hl, hcell, hf⟩ := h3 i hi
  refine ⟨cs, hl, fun j hj => ?_, hf⟩
  have := hcell j hj
  rw [hx, add_form] at this
  exact this
/-- .. of integers. -/
theorem fits_ints {k : IntKind} {w : World} {v : Value} (h : FitsV w (.slice (.int k)) v) : ∃ y len cap, v = .slice y len cap ∧ (len = 0 ∨ ∃ b off, ∃ zs : Nat → Int, y = some ⟨b, off, none⟩ ∧ len ≤ cap ∧ cap ≤ maxLen ∧ b < w.heap.size ∧
    ∀ i, i < cap → w.cell? ⟨b, off + i, none⟩ = some (.int k (zs i)) ∧ (Lit.int k (zs i)).wf = true) := by
  obtain ⟨y, len, cap, hv, h⟩ := fits_slice h (by simp [Sh.size])
  refine ⟨y, len, cap, hv, ?_⟩
  rcases h with h | ⟨b, off, hy, h1, h2, hb, h3⟩
  · exact .inl h
  have g : ∀ i, i < cap → ∃ n : Int, w.cell? ⟨b, off + i, none⟩ = some (.int k n) ∧ (Lit.int k n).wf = true := fun i hi => by
    obtain ⟨cs, hl, hcell, n, hn, hw⟩ := h3 i hi
    have := hcell 0 (by simp [Sh.size])
    rw [hn] at this
    exact ⟨n, by simpa [Sh.size] using this, hw⟩
  refine .inr ⟨b, off, fun i => if h : i < cap then (g i h).choose else 0, hy, h1, h2, hb, fun i hi => ?_⟩
  simp only [hi, dite_true]
  exact (g i hi).choose_spec
end Go.Proofs.Yteaanlemmhnpgaa.B
