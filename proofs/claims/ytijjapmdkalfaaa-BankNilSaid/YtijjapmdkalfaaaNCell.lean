/- A timer's five cells, in a block of words or of a Count: read and stored whole, or one by one. -/
import Derived.Test.YtijjapmdkalfaaaNWords
import Derived.Test.YtijjapmdkalfaaaArr
import Derived.Test.YtijjapmdkalfaaaMap
namespace Go.Proofs.Ytijjapmdkalfaaa.B
set_option linter.unusedVariables false
set_option linter.unusedSimpArgs false
open Go.ChangeShapes Go.WideShapes Go.RowKit Go.Sort
theorem iW : (Try.prog.info? 77).map (·.size) = some 5 := by kernel_rfl
/-- The cells. -/
def w5 (ld v c s ph : Int) : List Value := [.int .u32 ld, .int .u32 v, .int .u32 c, .int .u32 s, .int .u64 ph]
def A5 (w : World) (b : Nat) (T : TypeId) (ld v c s ph : Int) : Prop := w.heap[b]? = some (.cells (w5 ld v c s ph).toArray T (0, 0))
section
variable {w w' : World} {b : Nat} {T : TypeId} {ld v c s ph : Int}
theorem A5.lt (h : A5 w b T ld v c s ph) : b < w.heap.size := lt_of_block h
theorem A5.below (h : A5 w b T ld v c s ph) (hb : Below w.heap.size w w') : A5 w' b T ld v c s ph := blk_below hb h h.lt
theorem A5.off {S : Nat → Prop} (h : A5 w b T ld v c s ph) (ho : Off S w w') (hs : ¬ S b) : A5 w' b T ld v c s ph := ho.at h hs
theorem A5.free (h : A5 w b T ld v c s ph) (j : Nat) : w.frozen? ⟨b, j, none⟩ = false := blk_free h j
theorem A5.c0 (h : A5 w b T ld v c s ph) : w.cell? ⟨b, 0, none⟩ = some (.int .u32 ld) := by rw [blk_cell h 0]; rfl
theorem A5.c1 (h : A5 w b T ld v c s ph) : w.cell? ⟨b, 1, none⟩ = some (.int .u32 v) := by rw [blk_cell h 1]; rfl
theorem A5.c2 (h : A5 w b T ld v c s ph) : w.cell? ⟨b, 2, none⟩ = some (.int .u32 c) := by rw [blk_cell h 2]; rfl
theorem A5.c3 (h : A5 w b T ld v c s ph) : w.cell? ⟨b, 3, none⟩ = some (.int .u32 s) := by rw [blk_cell h 3]; rfl
theorem A5.c4 (h : A5 w b T ld v c s ph) : w.cell? ⟨b, 4, none⟩ = some (.int .u64 ph) := by rw [blk_cell h 4]; rfl
theorem A5.s0 (h : A5 w b T ld v c s ph) (x : Int) : A5 (w.setCell ⟨b, 0, none⟩ (.int .u32 x)) b T x v c s ph := by have := blk_set h 0 (.int .u32 x); simpa [A5, w5] using this
theorem A5.s1 (h : A5 w b T ld v c s ph) (x : Int) : A5 (w.setCell ⟨b, 1, none⟩ (.int .u32 x)) b T ld x c s ph := by have := blk_set h 1 (.int .u32 x); simpa [A5, w5] using this
theorem A5.s2 (h : A5 w b T ld v c s ph) (x : Int) : A5 (w.setCell ⟨b, 2, none⟩ (.int .u32 x)) b T ld v x s ph := by have := blk_set h 2 (.int .u32 x); simpa [A5, w5] using this
theorem A5.s3 (h : A5 w b T ld v c s ph) (x : Int) : A5 (w.setCell ⟨b, 3, none⟩ (.int .u32 x)) b T ld v c x ph := by have := blk_set h 3 (.int .u32 x); simpa [A5, w5] using this
theorem A5.s4 (h : A5 w b T ld v c s ph) (x : Int) : A5 (w.setCell ⟨b, 4, none⟩ (.int .u64 x)) b T ld v c s x := by have := blk_set h 4 (.int .u64 x); simpa [A5, w5] using this
theorem A5.other (h : A5 w b T ld v c s ph) (k j : Nat) (x : Value) (hne : b ≠ k) : A5 (w.setCell ⟨k, j, none⟩ x) b T ld v c s ph := blk_else h k j x hne
theorem A5.row {old : Array Value} (h : w.heap[b]? = some (.cells old T (0, 0))) (ld v c s ph : Int) : A5 (w.setRow b (w5 ld v c s ph).toArray) b T ld v c s ph := row_set _ h
theorem A5.elseRow (h : A5 w b T ld v c s ph) (g : Nat) (cs : Array Value) (hne : b ≠ g) : A5 (w.setRow g cs) b T ld v c s ph := row_else g cs h hne
end
theorem w5_one (ld v c s ph : Int) : ∀ x ∈ w5 ld v c s ph, x.oneCell' = true := by
  intro x h
  simp only [w5, List.mem_cons, List.not_mem_nil, or_false] at h
  rcases h with rfl | rfl | rfl | rfl | rfl <;> rfl
section
variable {ops : Array Oper} {rest : List Oper} {o : Oper} {a : Act} {w : World} {Q : Exit → Act → World → Prop}
theorem loadW (hgd : o.guard = none) (x : Operand) (ho : o.op = .load 77 x) {b : Nat} {T : TypeId} (hx : a.eval x = .pointer (some ⟨b, 0, none⟩)) {ld v c s ph : Int} (hg : A5 w b T ld v c s ph)
    (h : wpList Try.prog ops Q rest (a.put o.dst (.agg (w5 ld v c s ph).toArray)) w) : wpList Try.prog ops Q (o :: rest) a w :=
  wpList_load_part hgd _ x ho b 0 hx _ (w5 ld v c s ph) hg Try.underlying77 rfl iW (part_all _) h
theorem loadWg (x : Operand) (ho : o.op = .load 77 x) (hw : Region.wanted o (yielded ops a.tmps) = true) {b : Nat} {T : TypeId} (hx : a.eval x = .pointer (some ⟨b, 0, none⟩)) {ld v c s ph : Int} (hg : A5 w b T ld v c s ph)
    (h : wpList Try.prog ops Q rest (a.put o.dst (.agg (w5 ld v c s ph).toArray)) w) : wpList Try.prog ops Q (o :: rest) a w :=
  wpList_load_part_g _ x ho hw b 0 hx _ (w5 ld v c s ph) hg Try.underlying77 rfl iW (part_all _) h
theorem storeW (hgd : o.guard = none) (x y : Operand) (ho : o.op = .store 77 x y) {b : Nat} {T : TypeId} (hx : a.eval x = .pointer (some ⟨b, 0, none⟩)) {ld v c s ph : Int} (hy : a.eval y = .agg (w5 ld v c s ph).toArray) {ld' v' c' s' ph' : Int}
    (hg : A5 w b T ld' v' c' s' ph')
    (h : wpList Try.prog ops Q rest (a.put o.dst undef) (w.setRow b (w5 ld v c s ph).toArray)) : wpList Try.prog ops Q (o :: rest) a w := by
  refine wpList_store_part hgd _ x y ho b 0 hx (w5 ld v c s ph) hy hg iW (by simp [w5]) (w5_one _ _ _ _ _) ?_
  rw [spliced_all _ _ (by simp [w5])]
  exact h
theorem qloadW {C : World → Prop} {K : Act → Prop} (x : Operand) (ho : o.op = .load 77 x) {b : Nat} {T : TypeId} (hx : a.eval x = .pointer (some ⟨b, 0, none⟩)) {ld v c s ph : Int} (hg : ∀ w, C w → A5 w b T ld v c s ph)
    (h : K (a.put o.dst (.agg (w5 ld v c s ph).toArray))) : o.quiet Try.prog a C K :=
  quiet_load_part _ x ho b 0 hx _ (w5 ld v c s ph) (fun w hw => hg w hw) Try.underlying77 rfl iW (part_all _) h
end
theorem resW {fn : Func} {p : Tmp} (h : fn.results = #[.cell p 77]) (tmps : Array Value) (w : World) {b : Nat} {T : TypeId} {ld v c s ph : Int} (hp : tmps[p]? = some (.pointer (some ⟨b, 0, none⟩))) (hg : A5 w b T ld v c s ph) :
    (results fn tmps).run Try.prog w = .ok (.agg (w5 ld v c s ph).toArray) w :=
  results_cell_one h tmps w b 0 _ (w5 ld v c s ph) hp hg Try.underlying77 rfl iW (part_all _)
theorem zW_eq : Obj.cells #[.int .u32 0, .int .u32 0, .int .u32 0, .int .u32 0, .int .u64 0] 77 (0, 0) = .cells (w5 0 0 0 0 0).toArray 77 (0, 0) := rfl
end Go.Proofs.Ytijjapmdkalfaaa.B
