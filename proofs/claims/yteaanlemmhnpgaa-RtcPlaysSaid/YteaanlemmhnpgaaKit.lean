/- Small words of all stages: returned values, worlds that grow. -/
import Derived.Test.YteaanlemmhnpgaaRows
import Derived.WalkKit
import Derived.WalkLawsBesides
import Derived.Lib.Hide
import Derived.Lib.QuietBelow
import Derived.Laws.ResultCell
import Derived.Deep.QuietTactic
import Derived.BigQuiet
namespace Go.Proofs.Yteaanlemmhnpgaa.B
set_option linter.unusedVariables false
set_option linter.unusedSimpArgs false
open Go.ChangeShapes Go.WideShapes Go.RowKit Go.Sort
theorem ret_int {k : IntKind} {a b : Int} (h : a = b) : Ending.returned (.int k a) = .returned (.int k b) := by rw [h]
theorem ret_bool {a b : Bool} (h : a = b) : Ending.returned (.bool a) = .returned (.bool b) := by rw [h]
theorem int_of {k : IntKind} {a b : Int} (h : a = b) : Value.int k a = Value.int k b := by rw [h]
theorem self_eq (x : Int) : (x == x) = true := beq_self_eq_true x
/-- One step more behind a world that has grown. -/
theorem tr {a b c : World} (h : Below a.heap.size a b) (k : Below b.heap.size b c) : Below a.heap.size a c := h.trans (k.mono h.size)
theorem trA {a b : World} (h : Below a.heap.size a b) (o : Obj) : Below a.heap.size a (b.alloc o) := h.alloc h.size o
theorem trN {a b : World} (h : Below a.heap.size a b) (n : Nat) : Below a.heap.size a (b.drewN n) := h.trans ⟨rfl, rfl, rfl, Nat.le_refl _, fun _ _ => rfl⟩
theorem trD {a b : World} (h : Below a.heap.size a b) : Below a.heap.size a b.drew := h.drew
theorem tr0 (a : World) : Below a.heap.size a a := Below.refl _ _
theorem trG {a b : World} (h : Below a.heap.size a b) (d : Nat) (os : Array Obj) : Below a.heap.size a (grow (redrawn b d) os) := tr h (below_regrown b d os)
/-- Cells and marks of old blocks, behind such a step. -/
theorem bcell {W w1 : World} (hb : Below W.heap.size W w1) : (∀ b o, b < W.heap.size → w1.cell? ⟨b, o, none⟩ = W.cell? ⟨b, o, none⟩) ∧ (∀ b o, b < W.heap.size → w1.frozen? ⟨b, o, none⟩ = W.frozen? ⟨b, o, none⟩) :=
  ⟨fun b o h => hb.cell (p := ⟨b, o, none⟩) h, fun b o h => hb.frozen (p := ⟨b, o, none⟩) h⟩
theorem gcell (W : World) (d : Nat) (os : Array Obj) (b o : Nat) (h : b < W.heap.size) : (grow (redrawn W d) os).cell? ⟨b, o, none⟩ = W.cell? ⟨b, o, none⟩ := (bcell (below_regrown W d os)).1 b o h
theorem gfrozen (W : World) (d : Nat) (os : Array Obj) (b o : Nat) (h : b < W.heap.size) : (grow (redrawn W d) os).frozen? ⟨b, o, none⟩ = W.frozen? ⟨b, o, none⟩ := (bcell (below_regrown W d os)).2 b o h
/-- A block that is known whole: its cells, that it may be written, and what it is behind a store. -/
theorem blk_cell {w : World} {b : Nat} {cs : Array Value} {t : TypeId} (h : w.heap[b]? = some (.cells cs t (0, 0))) (j : Nat) : w.cell? ⟨b, j, none⟩ = cs[j]? := by simp [World.cell?, h]
theorem blk_free {w : World} {b : Nat} {cs : Array Value} {t : TypeId} (h : w.heap[b]? = some (.cells cs t (0, 0))) (j : Nat) : w.frozen? ⟨b, j, none⟩ = false := by simp [World.frozen?, h]
theorem blk_set {w : World} {b : Nat} {cs : Array Value} {t : TypeId} (h : w.heap[b]? = some (.cells cs t (0, 0))) (j : Nat) (v : Value) : (w.setCell ⟨b, j, none⟩ v).heap[b]? = some (.cells (cs.setIfInBounds j v) t (0, 0)) :=
  heap_setCell_same w b j cs t v h
theorem blk_lt {w : World} {b : Nat} {o : Obj} (h : w.heap[b]? = some o) : b < w.heap.size := lt_of_block h
theorem blk_below {B : Nat} {w w' : World} (hb : Below B w w') {b : Nat} {o : Obj} (h : w.heap[b]? = some o) (hl : b < B) : w'.heap[b]? = some o := by rw [hb.block b hl]; exact h
theorem blk_new (w : World) (o : Obj) : (w.alloc o).heap[w.heap.size]? = some o := by show (w.heap.push o)[w.heap.size]? = _; simp
theorem blk_old (w : World) (o : Obj) {b : Nat} (h : b < w.heap.size) : (w.alloc o).heap[b]? = w.heap[b]? := by show (w.heap.push o)[b]? = _; rw [Array.getElem?_push, if_neg (by omega)]
/-- Two, three new blocks. -/
theorem b2_0 (w : World) (a b : Obj) : ((w.alloc a).alloc b).heap[w.heap.size]? = some a := (blk_old _ _ (by simp)).trans (blk_new w _)
theorem b2_1 (w : World) (a b : Obj) : ((w.alloc a).alloc b).heap[w.heap.size + 1]? = some b := by simpa using blk_new (w.alloc a) b
theorem b2_o (w : World) (a b : Obj) {k : Nat} (h : k < w.heap.size) : ((w.alloc a).alloc b).heap[k]? = w.heap[k]? := (blk_old _ _ (by simp; omega)).trans (blk_old w _ h)
theorem b3_0 (w : World) (a b c : Obj) : (((w.alloc a).alloc b).alloc c).heap[w.heap.size]? = some a := (blk_old _ _ (by simp; omega)).trans (b2_0 w a b)
theorem b3_1 (w : World) (a b c : Obj) : (((w.alloc a).alloc b).alloc c).heap[w.heap.size + 1]? = some b := (blk_old _ _ (by simp)).trans (b2_1 w a b)
theorem b3_2 (w : World) (a b c : Obj) : (((w.alloc a).alloc b).alloc c).heap[w.heap.size + 2]? = some c := by simpa using blk_new ((w.alloc a).alloc b) c
theorem b3_o (w : World) (a b c : Obj) {k : Nat} (h : k < w.heap.size) : (((w.alloc a).alloc b).alloc c).heap[k]? = w.heap[k]? := (blk_old _ _ (by simp; omega)).trans (b2_o w a b h)
theorem b2_s (w : World) (a b : Obj) : ((w.alloc a).alloc b).heap.size = w.heap.size + 2 := by simp
theorem b3_s (w : World) (a b c : Obj) : (((w.alloc a).alloc b).alloc c).heap.size = w.heap.size + 3 := by simp
/-- A store elsewhere. -/
theorem blk_else {w : World} {b : Nat} {o : Obj} (h : w.heap[b]? = some o) (k j : Nat) (v : Value) (hne : b ≠ k) : (w.setCell ⟨k, j, none⟩ v).heap[b]? = some o := by
  rw [Below.heap_setCell w ⟨k, j, none⟩ v b hne]; exact h
/-- A statement that is the last of its sequence, as one that is followed by something. -/
theorem wp_asThen {P : Program} {c : Code} {Q : Exit → Act → World → Prop} {a : Act} {w : World} (h : ∀ K : Act → World → Prop, (∀ a w, Q .normal a w → K a w) → c.wp P (Exit.then K Q) a w) : c.wp P Q a w := by
  refine wp_mono (h (Q .normal) fun _ _ q => q) ?_
  intro e a' w' hq
  cases e <;> exact hq
theorem apart_types {w : World} {b c : Nat} {x y : Array Value} {t u : TypeId} {f g : Nat × Nat} (h : w.heap[b]? = some (.cells x t f)) (k : w.heap[c]? = some (.cells y u g)) (hne : (t == u) = false) : b ≠ c := by
  rintro rfl
  rw [h] at k
  cases k
  simp at hne
end Go.Proofs.Yteaanlemmhnpgaa.B
