/- The document's own answers of layer 9: a controller's 35 cells, by value; New, Latch, Load, Store. -/
import Derived.Test.YtahhgeimbdlhpaaSPlain
import Derived.Test.YtahhgeimbdlhpaaTru
import Derived.Test.YtahhgeimbdlhpaaMap
import Derived.Deep.Cut
namespace Go.Proofs.Ytahhgeimbdlhpaa.B
set_option linter.unusedVariables false
set_option linter.unusedSimpArgs false
open Go.ChangeShapes Go.WideShapes Go.RowKit Go.Sort
theorem iR9 : (Try.prog.info? 28).map (·.size) = some 35 := by kernel_rfl
/-- The 35 cells. -/
def sl (f : Nat → Bool) (la ct : Int) (qs : Bool) : List Value := bl f 32 ++ [.int .i64 la, .int .u32 ct, .bool qs]
theorem sl_len (f : Nat → Bool) (la ct : Int) (qs : Bool) : (sl f la ct qs).length = 35 := by unfold sl; simp [bl_len]
theorem sl_one (f : Nat → Bool) (la ct : Int) (qs : Bool) : ∀ v ∈ sl f la ct qs, v.oneCell' = true := by
  intro v h
  unfold sl at h
  rcases List.mem_append.1 h with h | h
  · exact bl_one _ _ v h
  · simp only [List.mem_cons, List.not_mem_nil, or_false] at h
    rcases h with rfl | rfl | rfl <;> rfl
theorem sl_get (f : Nat → Bool) (la ct : Int) (qs : Bool) (i : Nat) (h : i < 32) : (sl f la ct qs)[i]? = some (.bool (f i)) := by
  unfold sl; rw [List.getElem?_append_left (by rw [bl_len]; exact h), bl_get _ _ _ h]
theorem sl_32 (f : Nat → Bool) (la ct : Int) (qs : Bool) : (sl f la ct qs)[32]? = some (.int .i64 la) := by
  unfold sl; rw [List.getElem?_append_right (by rw [bl_len]; omega), bl_len]; rfl
theorem sl_33 (f : Nat → Bool) (la ct : Int) (qs : Bool) : (sl f la ct qs)[33]? = some (.int .u32 ct) := by
  unfold sl; rw [List.getElem?_append_right (by rw [bl_len]; omega), bl_len]; rfl
theorem sl_34 (f : Nat → Bool) (la ct : Int) (qs : Bool) : (sl f la ct qs)[34]? = some (.bool qs) := by
  unfold sl; rw [List.getElem?_append_right (by rw [bl_len]; omega), bl_len]; rfl
theorem sl_part (f : Nat → Bool) (la ct : Int) (qs : Bool) : PartAt (sl f la ct qs).toArray 0 (bl f 32) := part_left _ _
theorem sl_set (f : Nat → Bool) (la ct : Int) (qs : Bool) (i : Nat) (b : Bool) (h : i < 32) : (sl f la ct qs).set i (.bool b) = sl (fun j => if j = i then b else f j) la ct qs := by
  unfold sl; rw [List.set_append_left _ _ (by rw [bl_len]; exact h), bl_set]
theorem sl_s32 (f : Nat → Bool) (la ct : Int) (qs : Bool) (x : Int) : (sl f la ct qs).set 32 (.int .i64 x) = sl f x ct qs := by
  unfold sl; rw [List.set_append_right _ _ (by rw [bl_len]; omega), bl_len]; rfl
theorem sl_s33 (f : Nat → Bool) (la ct : Int) (qs : Bool) (x : Int) : (sl f la ct qs).set 33 (.int .u32 x) = sl f la x qs := by
  unfold sl; rw [List.set_append_right _ _ (by rw [bl_len]; omega), bl_len]; rfl
theorem sl_s34 (f : Nat → Bool) (la ct : Int) (qs : Bool) (x : Bool) : (sl f la ct qs).set 34 (.bool x) = sl f la ct x := by
  unfold sl; rw [List.set_append_right _ _ (by rw [bl_len]; omega), bl_len]; rfl
abbrev tR9 : TypeId := 28
def UAt (w : World) (b : Nat) (f : Nat → Bool) (la ct : Int) (qs : Bool) : Prop := w.heap[b]? = some (.cells (sl f la ct qs).toArray tR9 (0, 0))
section
variable {w w' : World} {b : Nat} {f : Nat → Bool} {la ct : Int} {qs : Bool}
theorem UAt.lt (h : UAt w b f la ct qs) : b < w.heap.size := lt_of_block h
theorem UAt.below (h : UAt w b f la ct qs) (hb : Below w.heap.size w w') : UAt w' b f la ct qs := blk_below hb h h.lt
theorem UAt.off {S : Nat → Prop} (h : UAt w b f la ct qs) (ho : Off S w w') (hs : ¬ S b) : UAt w' b f la ct qs := ho.at h hs
theorem UAt.free (h : UAt w b f la ct qs) (j : Nat) : w.frozen? ⟨b, j, none⟩ = false := blk_free h j
theorem UAt.ci (h : UAt w b f la ct qs) (i : Nat) (hi : i < 32) : w.cell? ⟨b, i, none⟩ = some (.bool (f i)) := by rw [blk_cell h i]; simpa using sl_get f la ct qs i hi
theorem UAt.c32 (h : UAt w b f la ct qs) : w.cell? ⟨b, 32, none⟩ = some (.int .i64 la) := by rw [blk_cell h 32]; simpa using sl_32 f la ct qs
theorem UAt.c33 (h : UAt w b f la ct qs) : w.cell? ⟨b, 33, none⟩ = some (.int .u32 ct) := by rw [blk_cell h 33]; simpa using sl_33 f la ct qs
theorem UAt.c34 (h : UAt w b f la ct qs) : w.cell? ⟨b, 34, none⟩ = some (.bool qs) := by rw [blk_cell h 34]; simpa using sl_34 f la ct qs
theorem UAt.si (h : UAt w b f la ct qs) (i : Nat) (x : Bool) (hi : i < 32) : UAt (w.setCell ⟨b, i, none⟩ (.bool x)) b (fun j => if j = i then x else f j) la ct qs := by
  unfold UAt; rw [blk_set h, set_arr, sl_set _ _ _ _ _ _ hi]
theorem UAt.s32 (h : UAt w b f la ct qs) (x : Int) : UAt (w.setCell ⟨b, 32, none⟩ (.int .i64 x)) b f x ct qs := by unfold UAt; rw [blk_set h, set_arr, sl_s32]
theorem UAt.s33 (h : UAt w b f la ct qs) (x : Int) : UAt (w.setCell ⟨b, 33, none⟩ (.int .u32 x)) b f la x qs := by unfold UAt; rw [blk_set h, set_arr, sl_s33]
theorem UAt.s34 (h : UAt w b f la ct qs) (x : Bool) : UAt (w.setCell ⟨b, 34, none⟩ (.bool x)) b f la ct x := by unfold UAt; rw [blk_set h, set_arr, sl_s34]
theorem UAt.congr {f' : Nat → Bool} (h : UAt w b f la ct qs) (hf : ∀ i, i < 32 → f i = f' i) : UAt w b f' la ct qs := by
  unfold UAt sl at *
  rw [bl_congr f' f 32 fun i hi => (hf i hi).symm]; exact h
theorem UAt.other (h : UAt w b f la ct qs) (k j : Nat) (x : Value) (hne : b ≠ k) : UAt (w.setCell ⟨k, j, none⟩ x) b f la ct qs := blk_else h k j x hne
theorem UAt.row {old : Array Value} (h : w.heap[b]? = some (.cells old tR9 (0, 0))) (f : Nat → Bool) (la ct : Int) (qs : Bool) : UAt (w.setRow b (sl f la ct qs).toArray) b f la ct qs := row_set _ h
theorem UAt.elseRow (h : UAt w b f la ct qs) (g : Nat) (cs : Array Value) (hne : b ≠ g) : UAt (w.setRow g cs) b f la ct qs := row_else g cs h hne
theorem UAt.alloc (h : UAt w b f la ct qs) (o : Obj) : UAt (w.alloc o) b f la ct qs := (blk_old w o h.lt).trans h
theorem UAt.grown (h : UAt w b f la ct qs) : ∀ w', (∃ p : Regrown, w' = grow (redrawn w p.d) p.os) → UAt w' b f la ct qs := grown_block h
end
section
variable {ops : Array Oper} {rest : List Oper} {o : Oper} {a : Act} {w : World} {Q : Exit → Act → World → Prop}
theorem loadU (hgd : o.guard = none) (x : Operand) (ho : o.op = .load 28 x) {b : Nat} (hx : a.eval x = .pointer (some ⟨b, 0, none⟩)) {f : Nat → Bool} {la ct : Int} {qs : Bool} (hg : UAt w b f la ct qs)
    (h : wpList Try.prog ops Q rest (a.put o.dst (.agg (sl f la ct qs).toArray)) w) : wpList Try.prog ops Q (o :: rest) a w :=
  wpList_load_part hgd _ x ho b 0 hx _ (sl f la ct qs) hg Try.underlying28 rfl (by rw [sl_len]; exact iR9) (part_all _) h
theorem loadUg (x : Operand) (ho : o.op = .load 28 x) (hw : Region.wanted o (yielded ops a.tmps) = true) {b : Nat} (hx : a.eval x = .pointer (some ⟨b, 0, none⟩)) {f : Nat → Bool} {la ct : Int} {qs : Bool} (hg : UAt w b f la ct qs)
    (h : wpList Try.prog ops Q rest (a.put o.dst (.agg (sl f la ct qs).toArray)) w) : wpList Try.prog ops Q (o :: rest) a w :=
  wpList_load_part_g _ x ho hw b 0 hx _ (sl f la ct qs) hg Try.underlying28 rfl (by rw [sl_len]; exact iR9) (part_all _) h
theorem storeU (hgd : o.guard = none) (x y : Operand) (ho : o.op = .store 28 x y) {b : Nat} (hx : a.eval x = .pointer (some ⟨b, 0, none⟩)) {f : Nat → Bool} {la ct : Int} {qs : Bool} (hy : a.eval y = .agg (sl f la ct qs).toArray) {f' : Nat → Bool} {la' ct' : Int} {qs' : Bool} (hg : UAt w b f' la' ct' qs')
    (h : wpList Try.prog ops Q rest (a.put o.dst undef) (w.setRow b (sl f la ct qs).toArray)) : wpList Try.prog ops Q (o :: rest) a w := by
  refine wpList_store_part hgd _ x y ho b 0 hx (sl f la ct qs) hy hg (by rw [sl_len]; exact iR9) (by simp [sl_len]) (sl_one _ _ _ _) ?_
  rw [spliced_all _ _ (by simp [sl_len])]
  exact h
theorem storeUr (hgd : o.guard = none) (x y : Operand) (ho : o.op = .store 28 x y) {b : Nat} (hx : a.eval x = .pointer (some ⟨b, 0, none⟩)) {f : Nat → Bool} {la ct : Int} {qs : Bool} (hy : a.eval y = .agg (sl f la ct qs).toArray) {cs : Array Value} {t : TypeId} (hg : w.heap[b]? = some (.cells cs t (0, 0))) (hl : cs.size = 35)
    (h : wpList Try.prog ops Q rest (a.put o.dst undef) (w.setRow b (sl f la ct qs).toArray)) : wpList Try.prog ops Q (o :: rest) a w := by
  refine wpList_store_part hgd _ x y ho b 0 hx (sl f la ct qs) hy hg (by rw [sl_len]; exact iR9) (by rw [sl_len]; omega) (sl_one _ _ _ _) ?_
  rw [spliced_all _ _ (by rw [sl_len]; exact hl)]
  exact h
end
theorem load25U {ops : Array Oper} {rest : List Oper} {o : Oper} {a : Act} {w : World} {Q : Exit → Act → World → Prop} (hgd : o.guard = none) (x : Operand) (ho : o.op = .load 25 x) {b : Nat} (hx : a.eval x = .pointer (some ⟨b, 0, none⟩)) {f : Nat → Bool} {la ct : Int} {qs : Bool} (hg : UAt w b f la ct qs)
    (h : wpList Try.prog ops Q rest (a.put o.dst (.agg (bl f 32).toArray)) w) : wpList Try.prog ops Q (o :: rest) a w :=
  wpList_load_part hgd _ x ho b 0 hx _ (bl f 32) hg Try.underlying25 rfl (by rw [bl_len]; exact i25) (sl_part _ _ _ _) h
theorem qload25U {C : World → Prop} {o : Oper} {a : Act} {K : Act → Prop} (x : Operand) (ho : o.op = .load 25 x) {b : Nat} (hx : a.eval x = .pointer (some ⟨b, 0, none⟩)) {f : Nat → Bool} {la ct : Int} {qs : Bool} (hg : ∀ w, C w → UAt w b f la ct qs)
    (h : K (a.put o.dst (.agg (bl f 32).toArray))) : o.quiet Try.prog a C K :=
  quiet_load_part _ x ho b 0 hx _ (bl f 32) (fun w hw => hg w hw) Try.underlying25 rfl (by rw [bl_len]; exact i25) (sl_part _ _ _ _) h
theorem resU {fn : Func} {p : Tmp} (h : fn.results = #[.cell p 28]) (tmps : Array Value) (w : World) {b : Nat} {f : Nat → Bool} {la ct : Int} {qs : Bool} (hp : tmps[p]? = some (.pointer (some ⟨b, 0, none⟩))) (hg : UAt w b f la ct qs) :
    (results fn tmps).run Try.prog w = .ok (.agg (sl f la ct qs).toArray) w :=
  results_cell_one h tmps w b 0 _ (sl f la ct qs) hp hg Try.underlying28 rfl (by rw [sl_len]; exact iR9) (part_all _)
theorem resU2 {fn : Func} {p q : Tmp} (h : fn.results = #[.cell p 28, .tmp q]) (tmps : Array Value) (w : World) {b : Nat} {f : Nat → Bool} {la ct : Int} {qs : Bool} (y : Value) (hp : tmps[p]? = some (.pointer (some ⟨b, 0, none⟩))) (hq : tmps[q]? = some y) (hg : UAt w b f la ct qs) :
    (results fn tmps).run Try.prog w = .ok (.tuple #[.agg (sl f la ct qs).toArray, y]) w :=
  results_cell_slot h tmps w b 0 _ (sl f la ct qs) y hp hq hg Try.underlying28 rfl (by rw [sl_len]; exact iR9) (part_all _)
def oU (f : Nat → Bool) (la ct : Int) (qs : Bool) : Obj := .cells (sl f la ct qs).toArray tR9 (0, 0)
theorem oU_eq (f : Nat → Bool) (la ct : Int) (qs : Bool) : Obj.cells (sl f la ct qs).toArray 28 (0, 0) = oU f la ct qs := rfl
def zU : Obj := oU (fun _ => false) 0 0 false
theorem zU_eq : Obj.cells #[.bool false, .bool false, .bool false, .bool false, .bool false, .bool false, .bool false, .bool false, .bool false, .bool false, .bool false, .bool false, .bool false, .bool false, .bool false, .bool false, .bool false, .bool false, .bool false, .bool false, .bool false, .bool false, .bool false, .bool false, .bool false, .bool false, .bool false, .bool false, .bool false, .bool false, .bool false, .bool false, .int .i64 0, .int .u32 0, .bool false] 28 (0, 0) = zU := rfl
theorem u_new (w : World) (f : Nat → Bool) (la ct : Int) (qs : Bool) : UAt (w.alloc (oU f la ct qs)) w.heap.size f la ct qs := blk_new w _
/-- A controller's value, of its plain numbers. -/
def ul (t : Rs) : List Value := sl (bit t.ca) t.la t.ct t.qs
end Go.Proofs.Ytahhgeimbdlhpaa.B
