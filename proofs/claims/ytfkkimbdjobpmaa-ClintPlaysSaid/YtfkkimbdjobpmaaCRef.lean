/- The document's own answers of layer 5: a clint as two words a comparator, by value. -/
import Derived.Test.YtfkkimbdjobpmaaClintL
import Derived.Test.YtfkkimbdjobpmaaBRef
namespace Go.Proofs.Ytfkkimbdjobpmaa.B
set_option linter.unusedVariables false
set_option linter.unusedSimpArgs false
open Go.ChangeShapes Go.WideShapes Go.RowKit Go.Sort
theorem iC : (Try.prog.info? 32).map (·.size) = some 26 := by kernel_rfl
/-- A document's clint's cells: the time, lower words, upper words, bits, harts. -/
def rcr (t : Int) (n : Nat) (A B S : Nat → Int) : List Value := [.int .u64 t] ++ (il .u32 A 8 ++ (il .u32 B 8 ++ (il .u32 S 8 ++ [.int .i64 n])))
section
variable (t : Int) (n : Nat) (A B S : Nat → Int)
theorem rcr_len : (rcr t n A B S).length = 26 := by simp [rcr, il_len]
theorem rcr_one : ∀ v ∈ rcr t n A B S, v.oneCell' = true := by
  intro v h
  unfold rcr at h
  simp only [List.mem_append, List.mem_cons, List.not_mem_nil, or_false] at h
  rcases h with rfl | h | h | h | rfl
  · rfl
  · exact il_one _ _ _ v h
  · exact il_one _ _ _ v h
  · exact il_one _ _ _ v h
  · rfl
theorem rcr_L (i : Nat) (h : i < 8) : (rcr t n A B S)[1 + i]? = some (.int .u32 (A i)) := by
  unfold rcr; rw [app_get _ _ 1 i (by rfl), app_left _ _ _ (by rw [il_len]; exact h), il_get _ _ _ _ h]
theorem rcr_H (i : Nat) (h : i < 8) : (rcr t n A B S)[9 + i]? = some (.int .u32 (B i)) := by
  unfold rcr; rw [show 9 + i = 1 + (8 + i) by omega, app_get _ _ 1 _ (by rfl), app_get _ _ 8 i (by rw [il_len]), app_left _ _ _ (by rw [il_len]; exact h), il_get _ _ _ _ h]
theorem rcr_S (i : Nat) (h : i < 8) : (rcr t n A B S)[17 + i]? = some (.int .u32 (S i)) := by
  unfold rcr; rw [show 17 + i = 1 + (8 + (8 + i)) by omega, app_get _ _ 1 _ (by rfl), app_get _ _ 8 _ (by rw [il_len]), app_get _ _ 8 i (by rw [il_len]), app_left _ _ _ (by rw [il_len]; exact h), il_get _ _ _ _ h]
theorem rcr_N : (rcr t n A B S)[25]? = some (.int .i64 n) := by
  unfold rcr; rw [show 25 = 1 + (8 + (8 + (8 + 0))) by omega, app_get _ _ 1 _ (by rfl), app_get _ _ 8 _ (by rw [il_len]), app_get _ _ 8 _ (by rw [il_len]), app_get _ _ 8 _ (by rw [il_len])]; rfl
theorem rcr_setT (v : Int) : (rcr t n A B S).set 0 (.int .u64 v) = rcr v n A B S := rfl
theorem rcr_setL (i : Nat) (v : Int) (h : i < 8) : (rcr t n A B S).set (1 + i) (.int .u32 v) = rcr t n (upd A i v) B S := by
  unfold rcr; rw [app_set _ _ 1 i _ (by rfl), app_set_left _ _ _ _ (by rw [il_len]; exact h), il_set]
theorem rcr_setH (i : Nat) (v : Int) (h : i < 8) : (rcr t n A B S).set (9 + i) (.int .u32 v) = rcr t n A (upd B i v) S := by
  unfold rcr; rw [show 9 + i = 1 + (8 + i) by omega, app_set _ _ 1 _ _ (by rfl), app_set _ _ 8 i _ (by rw [il_len]), app_set_left _ _ _ _ (by rw [il_len]; exact h), il_set]
theorem rcr_setS (i : Nat) (v : Int) (h : i < 8) : (rcr t n A B S).set (17 + i) (.int .u32 v) = rcr t n A B (upd S i v) := by
  unfold rcr; rw [show 17 + i = 1 + (8 + (8 + i)) by omega, app_set _ _ 1 _ _ (by rfl), app_set _ _ 8 _ _ (by rw [il_len]), app_set _ _ 8 i _ (by rw [il_len]), app_set_left _ _ _ _ (by rw [il_len]; exact h), il_set]
end
theorem rcr_congr {t : Int} {n : Nat} {A B S A' B' S' : Nat → Int} (ha : ∀ i, i < 8 → A i = A' i) (hb : ∀ i, i < 8 → B i = B' i) (hs : ∀ i, i < 8 → S i = S' i) : rcr t n A B S = rcr t n A' B' S' := by
  unfold rcr; rw [il_congr _ _ _ _ ha, il_congr _ _ _ _ hb, il_congr _ _ _ _ hs]
/-- .. in the code's numbers. -/
def rcl (t : Int) (n : Nat) (D S : Nat → Int) : List Value := rcr t n (fun i => lo (D i)) (fun i => hi (D i)) S
theorem rcl_len (t : Int) (n : Nat) (D S : Nat → Int) : (rcl t n D S).length = 26 := rcr_len _ _ _ _ _
theorem rcl_one (t : Int) (n : Nat) (D S : Nat → Int) : ∀ v ∈ rcl t n D S, v.oneCell' = true := rcr_one _ _ _ _ _
/-- Block b is such a clint's. -/
def RcAt (w : World) (b : Nat) (t : Int) (n : Nat) (A B S : Nat → Int) : Prop := w.heap[b]? = some (.cells (rcr t n A B S).toArray 32 (0, 0))
section
variable {w w' : World} {b n : Nat} {t : Int} {A B S : Nat → Int}
theorem RcAt.lt (h : RcAt w b t n A B S) : b < w.heap.size := lt_of_block h
theorem RcAt.below (h : RcAt w b t n A B S) (hb : Below w.heap.size w w') : RcAt w' b t n A B S := blk_below hb h h.lt
theorem RcAt.free (h : RcAt w b t n A B S) (j : Nat) : w.frozen? ⟨b, j, none⟩ = false := blk_free h j
theorem RcAt.cT (h : RcAt w b t n A B S) : w.cell? ⟨b, 0, none⟩ = some (.int .u64 t) := by rw [blk_cell h 0]; rfl
theorem RcAt.cL (h : RcAt w b t n A B S) (i : Nat) (hi : i < 8) : w.cell? ⟨b, 1 + i, none⟩ = some (.int .u32 (A i)) := by rw [blk_cell h (1 + i), List.getElem?_toArray]; exact rcr_L _ _ _ _ _ _ hi
theorem RcAt.cH (h : RcAt w b t n A B S) (i : Nat) (hi : i < 8) : w.cell? ⟨b, 9 + i, none⟩ = some (.int .u32 (B i)) := by rw [blk_cell h (9 + i), List.getElem?_toArray]; exact rcr_H _ _ _ _ _ _ hi
theorem RcAt.cS (h : RcAt w b t n A B S) (i : Nat) (hi : i < 8) : w.cell? ⟨b, 17 + i, none⟩ = some (.int .u32 (S i)) := by rw [blk_cell h (17 + i), List.getElem?_toArray]; exact rcr_S _ _ _ _ _ _ hi
theorem RcAt.cN (h : RcAt w b t n A B S) : w.cell? ⟨b, 25, none⟩ = some (.int .i64 n) := by rw [blk_cell h 25, List.getElem?_toArray]; exact rcr_N _ _ _ _ _
theorem RcAt.set {t' : Int} {A' B' S' : Nat → Int} (h : RcAt w b t n A B S) (j : Nat) (v : Value) (he : (rcr t n A B S).set j v = rcr t' n A' B' S') : RcAt (w.setCell ⟨b, j, none⟩ v) b t' n A' B' S' := by
  unfold RcAt; rw [blk_set h, ← he]; simp
theorem RcAt.setT (h : RcAt w b t n A B S) (v : Int) : RcAt (w.setCell ⟨b, 0, none⟩ (.int .u64 v)) b v n A B S := h.set _ _ (rcr_setT _ _ _ _ _ _)
theorem RcAt.setL (h : RcAt w b t n A B S) (i : Nat) (v : Int) (hi : i < 8) : RcAt (w.setCell ⟨b, 1 + i, none⟩ (.int .u32 v)) b t n (upd A i v) B S := h.set _ _ (rcr_setL _ _ _ _ _ _ _ hi)
theorem RcAt.setH (h : RcAt w b t n A B S) (i : Nat) (v : Int) (hi : i < 8) : RcAt (w.setCell ⟨b, 9 + i, none⟩ (.int .u32 v)) b t n A (upd B i v) S := h.set _ _ (rcr_setH _ _ _ _ _ _ _ hi)
theorem RcAt.setS (h : RcAt w b t n A B S) (i : Nat) (v : Int) (hi : i < 8) : RcAt (w.setCell ⟨b, 17 + i, none⟩ (.int .u32 v)) b t n A B (upd S i v) := h.set _ _ (rcr_setS _ _ _ _ _ _ _ hi)
theorem RcAt.other (h : RcAt w b t n A B S) (k j : Nat) (v : Value) (hne : b ≠ k) : RcAt (w.setCell ⟨k, j, none⟩ v) b t n A B S := blk_else h k j v hne
end
section
variable {ops : Array Oper} {rest : List Oper} {o : Oper} {a : Act} {w : World} {Q : Exit → Act → World → Prop}
theorem loadC (hgd : o.guard = none) (x : Operand) (ho : o.op = .load 32 x) {b : Nat} (hx : a.eval x = .pointer (some ⟨b, 0, none⟩)) {t : Int} {n : Nat} {A B S : Nat → Int} (hg : RcAt w b t n A B S)
    (h : wpList Try.prog ops Q rest (a.put o.dst (.agg (rcr t n A B S).toArray)) w) : wpList Try.prog ops Q (o :: rest) a w :=
  wpList_load_part hgd _ x ho b 0 hx _ (rcr t n A B S) hg Try.underlying32 rfl (by rw [rcr_len]; exact iC) (part_all _) h
theorem loadCg (x : Operand) (ho : o.op = .load 32 x) (hw : Region.wanted o (yielded ops a.tmps) = true) {b : Nat} (hx : a.eval x = .pointer (some ⟨b, 0, none⟩)) {t : Int} {n : Nat} {A B S : Nat → Int} (hg : RcAt w b t n A B S)
    (h : wpList Try.prog ops Q rest (a.put o.dst (.agg (rcr t n A B S).toArray)) w) : wpList Try.prog ops Q (o :: rest) a w :=
  wpList_load_part_g _ x ho hw b 0 hx _ (rcr t n A B S) hg Try.underlying32 rfl (by rw [rcr_len]; exact iC) (part_all _) h
theorem storeC (hgd : o.guard = none) (x y : Operand) (ho : o.op = .store 32 x y) {b : Nat} (hx : a.eval x = .pointer (some ⟨b, 0, none⟩)) {t : Int} {n : Nat} {A B S : Nat → Int} (hy : a.eval y = .agg (rcr t n A B S).toArray) {cs : Array Value} {ty : TypeId}
    (hg : w.heap[b]? = some (.cells cs ty (0, 0))) (hl : cs.size = 26)
    (h : wpList Try.prog ops Q rest (a.put o.dst undef) (w.setRow b (rcr t n A B S).toArray)) : wpList Try.prog ops Q (o :: rest) a w := by
  refine wpList_store_part hgd _ x y ho b 0 hx (rcr t n A B S) hy hg (by rw [rcr_len]; exact iC) (by rw [rcr_len]; omega) (rcr_one _ _ _ _ _) ?_
  rw [spliced_all _ _ (by rw [rcr_len, hl])]
  exact h
theorem qloadC {C : World → Prop} {K : Act → Prop} (x : Operand) (ho : o.op = .load 32 x) {b : Nat} (hx : a.eval x = .pointer (some ⟨b, 0, none⟩)) {t : Int} {n : Nat} {A B S : Nat → Int} (hg : ∀ w, C w → RcAt w b t n A B S)
    (h : K (a.put o.dst (.agg (rcr t n A B S).toArray))) : o.quiet Try.prog a C K :=
  quiet_load_part _ x ho b 0 hx _ (rcr t n A B S) (fun w hw => hg w hw) Try.underlying32 rfl (by rw [rcr_len]; exact iC) (part_all _) h
end
theorem RcAt.row {w : World} {b : Nat} {cs : Array Value} {t : Int} {n : Nat} {A B S : Nat → Int} (hg : w.heap[b]? = some (.cells cs 32 (0, 0))) : RcAt (w.setRow b (rcr t n A B S).toArray) b t n A B S := row_set _ hg
/-- One result, in such a cell; two. -/
theorem resC {fn : Func} {p : Tmp} (h : fn.results = #[.cell p 32]) (tmps : Array Value) (w : World) {b : Nat} {t : Int} {n : Nat} {A B S : Nat → Int} (hp : tmps[p]? = some (.pointer (some ⟨b, 0, none⟩))) (hg : RcAt w b t n A B S) :
    (results fn tmps).run Try.prog w = .ok (.agg (rcr t n A B S).toArray) w :=
  results_cell_one h tmps w b 0 _ (rcr t n A B S) hp hg Try.underlying32 rfl (by rw [rcr_len]; exact iC) (part_all _)
theorem resC2 {fn : Func} {p q : Tmp} (h : fn.results = #[.cell p 32, .tmp q]) (tmps : Array Value) (w : World) {b : Nat} {t : Int} {n : Nat} {A B S : Nat → Int} (y : Value) (hp : tmps[p]? = some (.pointer (some ⟨b, 0, none⟩))) (hq : tmps[q]? = some y) (hg : RcAt w b t n A B S) :
    (results fn tmps).run Try.prog w = .ok (.tuple #[.agg (rcr t n A B S).toArray, y]) w :=
  results_cell_slot h tmps w b 0 _ (rcr t n A B S) y hp hq hg Try.underlying32 rfl (by rw [rcr_len]; exact iC) (part_all _)
end Go.Proofs.Ytfkkimbdjobpmaa.B
