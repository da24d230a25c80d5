/- Several texts in one: Package bus: check, pageOf, cmp.Compare. Rows of things of several cells each: where each lies. A bus whose regions lie in the first page: what it looks up. -/
import Derived.Test.YtcgmnjajodegmaaGreatZNab
import Derived.Test.YtcgmnjajodegmaaGreatZNat
import Derived.Laws.AppendOwn
import Derived.Laws.OwnMore
namespace Go.Proofs.YtcgmnjajodegmaaGreat.B
set_option linter.unusedVariables false
set_option linter.unusedSimpArgs false
open Go.ChangeShapes Go.WideShapes Go.RowKit Go.Sort
theorem zPageOf (a : Int) (w : World) (a0 : 0 ≤ a) (a1 : a < 4294967296) :
    Calls Tryz.prog 183 #[.int .u32 a] w fun e w' => e = .returned (.agg #[.int .u32 (a / 16777216)]) ∧ Below w.heap.size w w' := by
  go_enter Tryz.func183, Tryz.ntmps183
  go_wp2_with fail
  refine bodyPost_ret (v := .agg #[.int .u32 (a / 16777216)]) ?_ rfl ?_
  · simp [results, Tryz.results183, go_sem]
  · exact ⟨rfl, trA (tr0 w) _⟩
theorem zCheckBad (b s : Int) (w : World) (b0 : 0 ≤ b) (b1 : b < 4294967296) (s0 : 0 ≤ s) (s1 : s < 4294967296) (h : (b % 4 != 0) = true ∨ (b % 4 != 0) = false ∧ (s % 4 != 0) = true) :
    Calls Tryz.prog 145 #[.agg #[.int .u32 b, .int .u32 s]] w fun e w' => e = .returned (.int .i64 11) ∧ Below w.heap.size w w' := by
  rcases h with h1 | ⟨h1, h2⟩
  all_goals
    go_enter Tryz.func145, Tryz.ntmps145
    go_wp2_with fail
    go_ret
    exact ⟨rfl, trA (tr0 w) _⟩
theorem zCheckRange0 (b : Int) (w : World) (b0 : 0 ≤ b) (b1 : b < 4294967296) (h1 : (b % 4 != 0) = false) :
    Calls Tryz.prog 145 #[.agg #[.int .u32 b, .int .u32 0]] w fun e w' => e = .returned (.int .i64 5) ∧ Below w.heap.size w w' := by
  go_enter Tryz.func145, Tryz.ntmps145
  go_wp2_with fail
  go_ret
  exact ⟨rfl, trA (tr0 w) _⟩
theorem zCheckRange (b s : Int) (w : World) (b0 : 0 ≤ b) (b1 : b < 4294967296) (s0 : 0 ≤ s) (s1 : s < 4294967296) (h1 : (b % 4 != 0) = false) (h2 : (s % 4 != 0) = false) (h3 : (s == 0) = false) (h4 : 4294967296 < b + s) :
    Calls Tryz.prog 145 #[.agg #[.int .u32 b, .int .u32 s]] w fun e w' => e = .returned (.int .i64 5) ∧ Below w.heap.size w w' := by
  go_enter Tryz.func145, Tryz.ntmps145
  go_wp2_with (go_at_call 179; refine (zEnd _ _ _ b0 b1 s0 s1).mono ?_; rintro e w1 ⟨rfl, hb1⟩)
  go_ret
  exact ⟨rfl, tr (trA (tr0 w) _) hb1⟩
theorem zCheck (b s : Int) (w : World) (b0 : 0 ≤ b) (b1 : b < 4294967296) (s0 : 0 ≤ s) (s1 : s < 4294967296) (h1 : (b % 4 != 0) = false) (h2 : (s % 4 != 0) = false) (h3 : (s == 0) = false) (h4 : b + s ≤ 4294967296) :
    Calls Tryz.prog 145 #[.agg #[.int .u32 b, .int .u32 s]] w fun e w' => e = .returned (.int .i64 0) ∧ Below w.heap.size w w' := by
  go_enter Tryz.func145, Tryz.ntmps145
  go_wp2_with (go_at_call 179; refine (zEnd _ _ _ b0 b1 s0 s1).mono ?_; rintro e w1 ⟨rfl, hb1⟩)
  go_ret
  exact ⟨rfl, tr (trA (tr0 w) _) hb1⟩
theorem zIsNaN (a : Int) (w : World) :
    Calls Tryz.prog 201 #[.int .u32 a] w fun e w' => e = .returned (.bool false) ∧ w = w' := by
  go_enter Tryz.func201, Tryz.ntmps201
  go_wp2_with fail
  go_ret
  exact ⟨ret_bool (by simp), rfl⟩
def cmpI (a b : Int) : Int := if a < b then -1 else if b < a then 1 else 0
theorem zCompare (a b : Int) (w : World) :
    Calls Tryz.prog 186 #[.int .u32 a, .int .u32 b] w fun e w' => e = .returned (.int .i64 (cmpI a b)) ∧ w = w' := by
  by_cases h1 : a < b
  · have hx := Lib.hid (show cmpI a b = -1 by unfold cmpI; rw [if_pos h1])
    go_enter Tryz.func186, Tryz.ntmps186
    go_wp2_with (go_at_call 201; refine (zIsNaN _ _).mono ?_; rintro e w1 ⟨rfl, rfl⟩)
    go_ret
    exact ⟨ret_int hx.out.symm, rfl⟩
  · by_cases h2 : b < a
    · have hx := Lib.hid (show cmpI a b = 1 by unfold cmpI; rw [if_neg h1, if_pos h2])
      go_enter Tryz.func186, Tryz.ntmps186
      go_wp2_with (go_at_call 201; refine (zIsNaN _ _).mono ?_; rintro e w1 ⟨rfl, rfl⟩)
      go_ret
      exact ⟨ret_int hx.out.symm, rfl⟩
    · have hx := Lib.hid (show cmpI a b = 0 by unfold cmpI; rw [if_neg h1, if_neg h2])
      go_enter Tryz.func186, Tryz.ntmps186
      go_wp2_with (go_at_call 201; refine (zIsNaN _ _).mono ?_; rintro e w1 ⟨rfl, rfl⟩)
      go_ret
      exact ⟨ret_int hx.out.symm, rfl⟩
end Go.Proofs.YtcgmnjajodegmaaGreat.B
namespace Go.Proofs.YtcgmnjajodegmaaGreat.B
set_option linter.unusedVariables false
set_option linter.unusedSimpArgs false
open Go.ChangeShapes Go.WideShapes Go.RowKit Go.Sort
theorem flat_len {α : Type} (f : α → List Value) (n : Nat) (h : ∀ x, (f x).length = n) : ∀ L : List α, (L.flatMap f).length = L.length * n
  | [] => by simp
  | x :: L => by rw [List.flatMap_cons, List.length_append, h, flat_len f n h L, List.length_cons, Nat.add_mul]; omega
theorem flat_at {α : Type} (f : α → List Value) (n : Nat) (h : ∀ x, (f x).length = n) : ∀ (L : List α) (k j : Nat) (x : α), L[k]? = some x → j < n → (L.flatMap f)[k * n + j]? = (f x)[j]?
  | [], k, j, x, hx, _ => by simp at hx
  | y :: L, 0, j, x, hx, hj => by
    simp at hx; subst hx
    rw [List.flatMap_cons, Nat.zero_mul, Nat.zero_add, List.getElem?_append_left (by rw [h]; exact hj)]
  | y :: L, k + 1, j, x, hx, hj => by
    rw [List.flatMap_cons, List.getElem?_append_right (by rw [h, Nat.add_mul]; omega), h, show (k + 1) * n + j - n = k * n + j by rw [Nat.add_mul]; omega]
    exact flat_at f n h L k j x (by simpa using hx) hj
/-- The cells of an owned row of things. -/
theorem row_cell {α : Type} {f : α → List Value} {n : Nat} (h : ∀ x, (f x).length = n) {w : World} {base : Nat} {e : TypeId} {v : Value} {L : List α} (ho : w.ownsRow base e n v L.length (L.flatMap f)) {g cap : Nat} (hv : v = .slice (some ⟨g, 0, none⟩) L.length cap)
    {k : Nat} {x : α} (hx : L[k]? = some x) (j : Nat) (hj : j < n) : w.cell? ⟨g, k * n + j, none⟩ = (f x)[j]? := by
  subst hv
  have hk : k < L.length := (List.getElem?_eq_some_iff.1 hx).1
  have hb : k * n + j < L.length * n := by
    have : (k + 1) * n ≤ L.length * n := Nat.mul_le_mul_right n hk
    rw [Nat.add_mul] at this; omega
  rw [ho.cellAt _ hb]
  exact flat_at f n h L k j x hx hj
theorem row_form {w : World} {base : Nat} {e : TypeId} {n m : Nat} {v : Value} {xs : List Value} (ho : w.ownsRow base e n v m xs) :
    (v = .slice none 0 0 ∧ m = 0) ∨ ∃ g cap, v = .slice (some ⟨g, 0, none⟩) m cap ∧ m ≤ cap ∧ cap ≤ maxLen ∧ g < w.heap.size ∧ ∃ cur, w.heap[g]? = some (.cells cur e (0, 0)) := by
  rcases ho.2 with h | ⟨g, cap, cur, h1, _, h2, h3, h4, _, _⟩
  · exact .inl h
  · exact .inr ⟨g, cap, h1, h3, h4, lt_of_block h2, cur, h2⟩
end Go.Proofs.YtcgmnjajodegmaaGreat.B
namespace Go.Proofs.YtcgmnjajodegmaaGreat.B
set_option linter.unusedVariables false
set_option linter.unusedSimpArgs false
open Go.ChangeShapes Go.WideShapes Go.RowKit Go.Sort
/-- A region and its device. -/
structure Seat where
  b : Int
  s : Int
  f : Nat
def regCells (x : Int × Int) : List Value := [.int .u32 x.1, .int .u32 x.2]
/-- Regions as they may stand in the first page. -/
def Seat.wf (x : Seat) : Prop := 0 ≤ x.b ∧ 0 < x.s ∧ x.b + x.s ≤ 16777216
theorem row_keep {w w' : World} {base : Nat} {e : TypeId} {n m : Nat} {v : Value} {xs : List Value} (h : w.ownsRow base e n v m xs) (hk : ∀ g, v.ownBlock = some g → w'.heap[g]? = w.heap[g]?) : w'.ownsRow base e n v m xs := by
  refine ⟨h.1, ?_⟩
  rcases h.2 with h2 | ⟨g, cap, cur, rfl, h3, h4, h5⟩
  · exact .inl h2
  · exact .inr ⟨g, cap, cur, rfl, h3, (hk g rfl).trans h4, h5⟩
theorem row_obj {w : World} {base : Nat} {e : TypeId} {n m : Nat} {v : Value} {xs : List Value} (h : w.ownsRow base e n v m xs) {k : Nat} (hk : v.ownBlock = some k) : ∃ cur, w.heap[k]? = some (.cells cur e (0, 0)) := by
  rcases h.2 with ⟨rfl, _⟩ | ⟨g, cap, cur, rfl, _, h3, _⟩
  · cases hk
  · cases hk; exact ⟨cur, h3⟩
/-- The blocks of a bus. -/
def busBlocks (p bm : Nat) (rv sv : Value) (k : Nat) : Prop := k = p ∨ k = bm ∨ rv.ownBlock = some k ∨ sv.ownBlock = some k
def zeroSeatV : Value := .agg #[.int .u32 0, .int .u32 0, .nilIface]
theorem zFindBad (a : Int) (pv : Option Addr) (w : World) (a0 : 0 ≤ a) (h : (a % 4 != 0) = true) :
    Calls Tryz.prog 177 #[.pointer pv, .int .u32 a] w fun e w' => e = .returned (.tuple #[zeroSeatV, .int .i64 11]) ∧ Below w.heap.size w w' := by
  go_enter Tryz.func177, Tryz.ntmps177
  go_wp2_with fail
  go_step3
  go_wp2_with fail
  rw [Exit.noGoto_ret]
  refine bodyPost_ret (v := .tuple #[zeroSeatV, .int .i64 11]) ?_ rfl ?_
  · simp [results, Tryz.results177, go_sem, zeroSeatV]
  · exact ⟨rfl, trA (tr0 w) _⟩
theorem zFindNil (a : Int) (w : World) (a0 : 0 ≤ a) (h : (a % 4 != 0) = false) :
    Calls Tryz.prog 177 #[.pointer none, .int .u32 a] w fun e w' => e = .returned (.tuple #[zeroSeatV, .int .i64 10]) ∧ Below w.heap.size w w' := by
  go_enter Tryz.func177, Tryz.ntmps177
  go_wp2_with fail
  go_step3
  go_wp2_with fail
  rw [Exit.noGoto_ret]
  refine bodyPost_ret (v := .tuple #[zeroSeatV, .int .i64 10]) ?_ rfl ?_
  · simp [results, Tryz.results177, go_sem, zeroSeatV]
  · exact ⟨rfl, trA (tr0 w) _⟩
/-- The end of find: the seat is stored where the result lies, and told. -/
theorem seat_ret {w W : World} {tmps : Array Value} {c0 c1 c2 d0 d1 d2 : Value} {e : Int} (h4 : tmps[4]? = some (.pointer (some ⟨w.heap.size, 0, none⟩))) (h5 : tmps[5]? = some (.int .i64 e))
    (hX : W.heap[w.heap.size]? = some (.cells #[d0, d1, d2] 227 (0, 0))) (hb : Below w.heap.size w W) :
    bodyPost Tryz.prog Tryz.f177 (fun e' w' => e' = .returned (.tuple #[.agg #[c0, c1, c2], .int .i64 e]) ∧ Below w.heap.size w w') Exit.ret { tmps := tmps, defers := [] }
      (((W.setCell ⟨w.heap.size, 0, none⟩ c0).setCell ⟨w.heap.size, 1, none⟩ c1).setCell ⟨w.heap.size, 2, none⟩ c2) := by
  have hY := blk_set (blk_set (blk_set hX 0 c0) 1 c1) 2 c2
  have hbY : Below w.heap.size w (((W.setCell ⟨w.heap.size, 0, none⟩ c0).setCell ⟨w.heap.size, 1, none⟩ c1).setCell ⟨w.heap.size, 2, none⟩ c2) := ((hb.setCell (Nat.le_refl _) _).setCell (Nat.le_refl _) _).setCell (Nat.le_refl _) _
  generalize (((W.setCell ⟨w.heap.size, 0, none⟩ c0).setCell ⟨w.heap.size, 1, none⟩ c1).setCell ⟨w.heap.size, 2, none⟩ c2) = Y at hY hbY ⊢
  have hy0 := blk_cell hY 0
  have hy1 := blk_cell hY 1
  have hy2 := blk_cell hY 2
  simp at hy0 hy1 hy2
  refine bodyPost_ret (v := .tuple #[.agg #[c0, c1, c2], .int .i64 e]) ?_ rfl ⟨rfl, hbY⟩
  simp [results, Tryz.results177, go_sem, hy0, hy1, hy2, h4, h5]
def W2 (w : World) : World := (w.alloc (.cells #[.int .u32 0, .int .u32 0, .nilIface] 227)).alloc (.cells #[.int .u32 0, .int .u32 0, .nilIface] 227)
end Go.Proofs.YtcgmnjajodegmaaGreat.B
