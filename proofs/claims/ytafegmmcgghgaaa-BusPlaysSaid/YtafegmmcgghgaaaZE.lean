/- Several texts in one: Rows and parts of rows, by value: a whole array (or struct) read out of a block that is known whole, and stored into a part of one: one step, whatever its size. The document's bus: a row of regions and their devices' numbers. The document's bus in plain words: regions in a list, one put in its place, an address looked up. No Go. The document's bus: Attach. The document's bus: Find. Rows of values of one cell each: the files, and the document's files. The document's bus: Load, Store. -/
import Derived.Test.YtafegmmcgghgaaaKit
import Derived.Test.YtafegmmcgghgaaaZA
import Derived.Laws.Rows
import Derived.Laws.CopyRow
import Derived.Deep.Quiet
import Derived.Lib.QuietBelow
import Derived.OwnWalk
import Derived.Deep.Cut
import Derived.BigRegion
namespace Go.Proofs.Ytafegmmcgghgaaa.B
set_option linter.unusedVariables false
set_option linter.unusedSimpArgs false
open Go.RowKit Go.Sort
section
variable {P : Program}
/-- The values lie in the cells from a place on. -/
def PartAt (cs : Array Value) (o : Nat) (vs : List Value) : Prop := ∀ j v, vs[j]? = some v → cs[o + j]? = some v
theorem part_all (vs : List Value) : PartAt vs.toArray 0 vs := fun j v h => by simpa using h
theorem part_left (xs ys : List Value) : PartAt (xs ++ ys).toArray 0 xs := fun j v h => by
  have hj : j < xs.length := (List.getElem?_eq_some_iff.1 h).1
  simp [List.getElem?_append_left hj, h]
theorem part_right (xs ys : List Value) (o : Nat) (ho : xs.length = o) : PartAt (xs ++ ys).toArray o ys := fun j v h => by
  subst ho
  simp [List.getElem?_append_right, h]
theorem loadVar_part (w : World) (g o : Nat) (t ty : TypeId) (cs : Array Value) (fr : Nat × Nat) (d : TypeDesc) (vs : List Value) (hg : w.heap[g]? = some (.cells cs t fr))
    (hu : P.underlying ty = some d) (hd : (match d with | .struct _ | .array _ _ => true | _ => false) = true) (hi : (P.info? ty).map (·.size) = some vs.length) (hp : PartAt cs o vs) :
    (loadVar ty ⟨g, o, none⟩).run P w = .ok (.agg vs.toArray) w := by
  have hl : (loadCells ⟨g, o, none⟩ vs.length).run P w = .ok vs.toArray w :=
    run_loadCells_list (P := P) w ⟨g, o, none⟩ vs (fun j v hv => by
      have hadd : (⟨g, o, none⟩ : Addr).add j = ⟨g, o + j, none⟩ := by unfold Addr.add; split <;> simp_all
      rw [hadd, cell_of_row w g (o + j) cs t fr hg]
      exact hp j v hv)
  cases hq : P.info? ty with
  | none => simp [hq] at hi
  | some i =>
    have hs : i.size = vs.length := by simpa [hq] using hi
    have hagg : (isAgg ty).run P w = .ok true w := by
      unfold isAgg
      rw [Sem.run_bind, run_underlying hu w]
      cases d <;> simp_all
    simp [loadVar, Sem.run_bind, hagg, sizeOf, typeInfo, hq, hs, hl]
/-- What a block holds behind a store of some values from a place on. -/
def spliced (cs : Array Value) (o : Nat) (vs : List Value) : Array Value := (cs.toList.take o ++ vs ++ cs.toList.drop (o + vs.length)).toArray
theorem spliced_all (cs : Array Value) (vs : List Value) (h : cs.size = vs.length) : spliced cs 0 vs = vs.toArray := by
  unfold spliced
  rw [List.drop_of_length_le (by simp; omega)]
  simp
theorem spliced_left (xs ys vs : List Value) (h : xs.length = vs.length) : spliced (xs ++ ys).toArray 0 vs = (vs ++ ys).toArray := by
  unfold spliced; simp [← h]
theorem spliced_right (xs ys vs : List Value) (o : Nat) (ho : xs.length = o) (h : ys.length = vs.length) : spliced (xs ++ ys).toArray o vs = (xs ++ vs).toArray := by
  unfold spliced; subst ho; simp [← h, List.drop_of_length_le]
theorem storeVar_part (w : World) (g o : Nat) (t ty : TypeId) (cs : Array Value) (vs : List Value) (hg : w.heap[g]? = some (.cells cs t (0, 0))) (hi : (P.info? ty).map (·.size) = some vs.length)
    (hl : o + vs.length ≤ cs.size) (h1 : ∀ v ∈ vs, v.oneCell' = true) :
    (storeVar ty ⟨g, o, none⟩ (.agg vs.toArray)).run P w = .ok () (w.setRow g (spliced cs o vs)) := by
  have := run_storeCells_at (P := P) g o t vs 0 cs w hg (by simpa using hl) h1
  cases hq : P.info? ty with
  | none => simp [hq] at hi
  | some i =>
    have hs : vs.length = i.size := by simp [hq] at hi; omega
    simp only [Nat.add_zero] at this
    simp [storeVar, sizeOf, typeInfo, hq, Value.cells, hs, this, spliced]
theorem wp_load_part {o : Oper} {a : Act} {w : World} {K : Act → World → Prop} {Q : Exit → Act → World → Prop} (ty : TypeId) (x : Operand) (ho : o.op = .load ty x)
    (g off : Nat) (hx : a.eval x = .pointer (some ⟨g, off, none⟩)) {t : TypeId} {cs : Array Value} {fr : Nat × Nat} (d : TypeDesc) (vs : List Value) (hg : w.heap[g]? = some (.cells cs t fr))
    (hu : P.underlying ty = some d) (hd : (match d with | .struct _ | .array _ _ => true | _ => false) = true) (hi : (P.info? ty).map (·.size) = some vs.length) (hp : PartAt cs off vs)
    (h : K (a.put o.dst (.agg vs.toArray)) w) : o.wp P a w K Q := by
  unfold Oper.wp execOp
  simp only [ho, hx, Instr.loadAt, Instr.sureAddr, Sem.run_bind, Sem.run_pure, Result.andThen_ok, loadVar_part w g off t ty cs fr d vs hg hu hd hi hp]
  exact h
theorem wpList_load_part {ops : Array Oper} {rest : List Oper} {o : Oper} {a : Act} {w : World} {Q : Exit → Act → World → Prop} (hgd : o.guard = none) (ty : TypeId) (x : Operand) (ho : o.op = .load ty x)
    (g off : Nat) (hx : a.eval x = .pointer (some ⟨g, off, none⟩)) {t : TypeId} {cs : Array Value} {fr : Nat × Nat} (d : TypeDesc) (vs : List Value) (hg : w.heap[g]? = some (.cells cs t fr))
    (hu : P.underlying ty = some d) (hd : (match d with | .struct _ | .array _ _ => true | _ => false) = true) (hi : (P.info? ty).map (·.size) = some vs.length) (hp : PartAt cs off vs)
    (h : wpList P ops Q rest (a.put o.dst (.agg vs.toArray)) w) : wpList P ops Q (o :: rest) a w :=
  wpList_plain hgd fun _ hK => wp_load_part ty x ho g off hx d vs hg hu hd hi hp (hK _ _ h)
/-- .. of an operation behind a guard that lets it run. -/
theorem wpList_load_part_g {ops : Array Oper} {rest : List Oper} {o : Oper} {a : Act} {w : World} {Q : Exit → Act → World → Prop} (ty : TypeId) (x : Operand) (ho : o.op = .load ty x) (hw : Region.wanted o (yielded ops a.tmps) = true)
    (g off : Nat) (hx : a.eval x = .pointer (some ⟨g, off, none⟩)) {t : TypeId} {cs : Array Value} {fr : Nat × Nat} (d : TypeDesc) (vs : List Value) (hg : w.heap[g]? = some (.cells cs t fr))
    (hu : P.underlying ty = some d) (hd : (match d with | .struct _ | .array _ _ => true | _ => false) = true) (hi : (P.info? ty).map (·.size) = some vs.length) (hp : PartAt cs off vs)
    (h : wpList P ops Q rest (a.put o.dst (.agg vs.toArray)) w) : wpList P ops Q (o :: rest) a w :=
  wpList_step fun _ hK => by rw [if_pos hw]; exact wp_load_part ty x ho g off hx d vs hg hu hd hi hp (hK _ _ h)
theorem wpList_store_part {ops : Array Oper} {rest : List Oper} {o : Oper} {a : Act} {w : World} {Q : Exit → Act → World → Prop} (hgd : o.guard = none) (ty : TypeId) (x y : Operand) (ho : o.op = .store ty x y)
    (g off : Nat) (hx : a.eval x = .pointer (some ⟨g, off, none⟩)) (vs : List Value) (hy : a.eval y = .agg vs.toArray) {t : TypeId} {cs : Array Value} (hg : w.heap[g]? = some (.cells cs t (0, 0)))
    (hi : (P.info? ty).map (·.size) = some vs.length) (hl : off + vs.length ≤ cs.size) (h1 : ∀ v ∈ vs, v.oneCell' = true)
    (h : wpList P ops Q rest (a.put o.dst undef) (w.setRow g (spliced cs off vs))) : wpList P ops Q (o :: rest) a w :=
  wpList_plain hgd fun _ hK => by
    unfold Oper.wp execOp
    simp only [ho, hx, hy, Instr.storeAt, Instr.sureAddr, Sem.run_bind, Sem.run_pure, Result.andThen_ok, storeVar_part w g off t ty cs vs hg hi hl h1]
    exact hK _ _ h
/-- .. in a region that draws its order: the block is the same in every world of the class. -/
theorem quiet_load_part {C : World → Prop} {o : Oper} {a : Act} {K : Act → Prop} (ty : TypeId) (x : Operand) (ho : o.op = .load ty x)
    (g off : Nat) (hx : a.eval x = .pointer (some ⟨g, off, none⟩)) {t : TypeId} {cs : Array Value} {fr : Nat × Nat} (d : TypeDesc) (vs : List Value) (hg : ∀ w, C w → w.heap[g]? = some (.cells cs t fr))
    (hu : P.underlying ty = some d) (hd : (match d with | .struct _ | .array _ _ => true | _ => false) = true) (hi : (P.info? ty).map (·.size) = some vs.length) (hp : PartAt cs off vs)
    (h : K (a.put o.dst (.agg vs.toArray))) : o.quiet P a C K :=
  ⟨_, fun w hw => by
    unfold Oper.quietAt execOp
    simp only [ho, hx, Instr.loadAt, Instr.sureAddr, Sem.run_bind, Sem.run_pure, Result.andThen_ok, loadVar_part w g off t ty cs fr d vs (hg w hw) hu hd hi hp]
    exact ⟨rfl, rfl⟩, h⟩
/-- Two results: one in cells, one in a slot. -/
theorem results_cell_slot {fn : Func} {p q : Tmp} {ty : TypeId} (h : fn.results = #[.cell p ty, .tmp q]) (tmps : Array Value) (w : World) (g off : Nat) {t : TypeId} {cs : Array Value} {fr : Nat × Nat} (d : TypeDesc) (vs : List Value) (y : Value)
    (hp : tmps[p]? = some (.pointer (some ⟨g, off, none⟩))) (hq : tmps[q]? = some y) (hg : w.heap[g]? = some (.cells cs t fr))
    (hu : P.underlying ty = some d) (hd : (match d with | .struct _ | .array _ _ => true | _ => false) = true) (hi : (P.info? ty).map (·.size) = some vs.length) (hpt : PartAt cs off vs) :
    (results fn tmps).run P w = .ok (.tuple #[.agg vs.toArray, y]) w := by
  simp [results, h, hp, hq, asAddr, loadVar_part w g off t ty cs fr d vs hg hu hd hi hpt]
theorem results_cell_one {fn : Func} {p : Tmp} {ty : TypeId} (h : fn.results = #[.cell p ty]) (tmps : Array Value) (w : World) (g off : Nat) {t : TypeId} {cs : Array Value} {fr : Nat × Nat} (d : TypeDesc) (vs : List Value)
    (hp : tmps[p]? = some (.pointer (some ⟨g, off, none⟩))) (hg : w.heap[g]? = some (.cells cs t fr))
    (hu : P.underlying ty = some d) (hd : (match d with | .struct _ | .array _ _ => true | _ => false) = true) (hi : (P.info? ty).map (·.size) = some vs.length) (hpt : PartAt cs off vs) :
    (results fn tmps).run P w = .ok (.agg vs.toArray) w := by
  simp [results, h, hp, asAddr, loadVar_part w g off t ty cs fr d vs hg hu hd hi hpt]
end
theorem grown_block {w : World} {b : Nat} {o : Obj} (h : w.heap[b]? = some o) : ∀ w', (∃ p : Regrown, w' = grow (redrawn w p.d) p.os) → w'.heap[b]? = some o := by
  rintro w' ⟨p, rfl⟩
  exact blk_below (below_regrown w p.d p.os) h (lt_of_block h)
/-- Rows set whole. -/
theorem row_set {w : World} {g : Nat} {old : Array Value} {t : TypeId} (cs : Array Value) (h : w.heap[g]? = some (.cells old t (0, 0))) : (w.setRow g cs).heap[g]? = some (.cells cs t (0, 0)) := setRow_heap w g old cs t (0, 0) h
theorem row_else {w : World} {b : Nat} {o : Obj} (g : Nat) (cs : Array Value) (h : w.heap[b]? = some o) (hne : b ≠ g) : (w.setRow g cs).heap[b]? = some o := by rw [setRow_other w g b cs hne]; exact h
theorem below_setRow {B : Nat} {w w' : World} (h : Below B w w') {g : Nat} (cs : Array Value) (hg : B ≤ g) : Below B w (w'.setRow g cs) :=
  ⟨h.os, h.tape, h.output, by simpa using h.size, fun k hk => (setRow_other w' g k cs (by omega)).trans (h.block k hk)⟩
theorem set_arr (l : List Value) (k : Nat) (v : Value) : l.toArray.setIfInBounds k v = (l.set k v).toArray := by simp
/-- A row of truths. -/
def bl (f : Nat → Bool) (n : Nat) : List Value := (List.range n).map fun i => .bool (f i)
theorem bl_len (f : Nat → Bool) (n : Nat) : (bl f n).length = n := by simp [bl]
theorem bl_one (f : Nat → Bool) (n : Nat) : ∀ v ∈ bl f n, v.oneCell' = true := by
  intro v h
  obtain ⟨i, _, rfl⟩ := List.mem_map.1 h
  rfl
theorem bl_get (f : Nat → Bool) (n i : Nat) (h : i < n) : (bl f n)[i]? = some (.bool (f i)) := by simp [bl, h]
theorem bl_congr (f g : Nat → Bool) (n : Nat) (h : ∀ i, i < n → f i = g i) : bl f n = bl g n := by
  unfold bl
  exact List.map_congr_left fun i hi => by rw [h i (by simpa using hi)]
theorem bl_set (f : Nat → Bool) (n k : Nat) (b : Bool) : (bl f n).set k (.bool b) = bl (fun i => if i = k then b else f i) n := by
  apply List.ext_getElem?
  intro i
  by_cases hi : i < n
  · rw [bl_get _ _ _ hi, List.getElem?_set]
    by_cases e : k = i
    · subst e; simp [bl_len, hi]
    · rw [if_neg e, if_neg (fun h => e h.symm), bl_get _ _ _ hi]
  · rw [List.getElem?_eq_none (by simp [bl_len]; omega), List.getElem?_eq_none (by simp [bl_len]; omega)]
end Go.Proofs.Ytafegmmcgghgaaa.B
namespace Go.Proofs.Ytafegmmcgghgaaa.B
set_option linter.unusedVariables false
set_option linter.unusedSimpArgs false
open Go.ChangeShapes Go.WideShapes Go.RowKit Go.Sort
abbrev tBt : TypeId := 67
/-- A region and its device's number. -/
structure Sg where
  b : Int
  s : Int
  n : Int
def sl (p : Sg) : List Value := [.int .u32 p.b, .int .u32 p.s, .int .i64 p.n]
def Sg.val (p : Sg) : Value := .agg #[.int .u32 p.b, .int .u32 p.s, .int .i64 p.n]
theorem sl_len (p : Sg) : (sl p).length = 3 := rfl
theorem sl_one (p : Sg) : ∀ v ∈ sl p, v.oneCell' = true := by
  intro v h
  simp only [sl, List.mem_cons, List.not_mem_nil, or_false] at h
  rcases h with rfl | rfl | rfl <;> rfl
/-- A slice of these pairs. -/
def OwnB (w : World) (B : Nat) (v : Value) (L : List Sg) : Prop := w.ownsRow B 67 3 v L.length (L.flatMap sl)
section
variable {w w' : World} {B g cap : Nat} {v : Value} {L : List Sg}
theorem ownB_nil (w : World) (B : Nat) : OwnB w B (.slice none 0 0) [] := World.ownsRow_nil w B _ 3
theorem OwnB.cases (h : OwnB w B v L) : (v = .slice none 0 0 ∧ L = []) ∨ ∃ g cap, v = .slice (some ⟨g, 0, none⟩) L.length cap ∧ B ≤ g ∧ L.length ≤ cap ∧ cap ≤ maxLen ∧ g < w.heap.size ∧ ∃ cur, w.heap[g]? = some (.cells cur 67 (0, 0)) := by
  rcases h.2 with ⟨h1, h2⟩ | ⟨g, cap, cur, h1, hB, hg, hnc, hcm, hcs, htk⟩
  · exact .inl ⟨h1, List.eq_nil_of_length_eq_zero h2⟩
  · exact .inr ⟨g, cap, h1, hB, hnc, hcm, lt_of_block hg, cur, hg⟩
theorem OwnB.below (h : OwnB w B v L) (hb : Below w.heap.size w w') : OwnB w' B v L := by
  refine ⟨h.1, ?_⟩
  rcases h.2 with h1 | ⟨g, cap, cur, h1, h2, h3, h4⟩
  · exact .inl h1
  · exact .inr ⟨g, cap, cur, h1, h2, blk_below hb h3 (lt_of_block h3), h4⟩
theorem OwnB.off {S : Nat → Prop} (h : OwnB w B v L) (ho : Off S w w') (hs : ∀ k, v.ownBlock = some k → ¬ S k) : OwnB w' B v L := by
  refine ⟨h.1, ?_⟩
  rcases h.2 with h1 | ⟨g, cap, cur, h1, h2, h3, h4⟩
  · exact .inl h1
  · exact .inr ⟨g, cap, cur, h1, h2, ho.at h3 (hs g (by rw [h1]; rfl)), h4⟩
theorem OwnB.base (h : OwnB w B v L) {C : Nat} (hC : ∀ k, v.ownBlock = some k → C ≤ k) : OwnB w C v L := by
  refine ⟨h.1, ?_⟩
  rcases h.2 with h1 | ⟨g, cap, cur, h1, h2, h3, h4⟩
  · exact .inl h1
  · exact .inr ⟨g, cap, cur, h1, hC g (by rw [h1]; rfl), h3, h4⟩
theorem OwnB.block (h : OwnB w B v L) {b : Nat} (hb : v.ownBlock = some b) : B ≤ b ∧ b < w.heap.size := World.ownsRow.lt h b hb
/-- Its block is of its type. -/
theorem OwnB.ty (h : OwnB w B v L) {b : Nat} (hb : v.ownBlock = some b) : ∃ cur, w.heap[b]? = some (.cells cur 67 (0, 0)) := by
  rcases h.2 with ⟨rfl, _⟩ | ⟨g, cap, cur, rfl, h2, h3, h4⟩
  · cases hb
  · cases hb; exact ⟨cur, h3⟩
theorem OwnB.cell (h : OwnB w B (.slice (some ⟨g, 0, none⟩) L.length cap) L) {i : Nat} {p : Sg} (hp : L[i]? = some p) (j : Nat) (hj : j < 3) : w.cell? ⟨g, i * 3 + j, none⟩ = (sl p)[j]? := row_cell (f := sl) (n := 3) sl_len h rfl hp j hj
end
theorem infoB : (Try.prog.info? 67).map (fun i => (i.zero, i.size, i.bytes)) = some (some (.agg (sl ⟨0, 0, 0⟩).toArray), 3, 16) := by kernel_rfl
section
variable {ops : Array Oper} {rest : List Oper} {o : Oper} {a : Act} {w : World} {Q : Exit → Act → World → Prop}
/-- One pair more, which lies in a block of its own. -/
theorem appendB (hgd : o.guard = none) (s x : Operand) (ho : o.op = .call { callee := .builtin .append, args := #[s, x], argTypes := #[51, 51] })
    {B g : Nat} {v : Value} {L : List Sg} {p : Sg} {ty : TypeId} {fr : Nat × Nat} (hs : a.eval s = v) (hO : OwnB w B v L) (hx : a.eval x = .slice (some ⟨g, 0, none⟩) 1 1) (hy : w.heap[g]? = some (.cells (sl p).toArray ty fr)) (hk : L.length < 100000) (hB : B ≤ w.heap.size)
    (h : ∀ v' w', OwnB w' B v' (L ++ [p]) → Off (fun b => v.ownBlock = some b) w w' → wpList Try.prog ops Q rest (a.put o.dst v') w') : wpList Try.prog ops Q (o :: rest) a w := by
  obtain ⟨i0, hi, hz0, hz1, hz2⟩ := info_parts infoB
  refine wpList_append_own w hgd s x _ ho B 67 i0 _ 3 16 Try.underlying51 hi hz0 hz1 hz2 rfl (by decide) v L.length _ hs hO ⟨g, 0, none⟩ 1 1 (sl p) hx rfl (fun j u hu => ?_) (sl_one p) (by unfold maxLen; omega) (by omega) hB fun v' w' h3 h4 _ => ?_
  · rw [Addr.add_lit, Nat.zero_add, cell_of_row w g j _ _ _ hy]
    simpa using hu
  · refine h v' w' ?_ (Off.ofGrown h4 fun k e => e)
    unfold OwnB
    simpa using h3
/-- All of another row. -/
theorem appendBllB (hgd : o.guard = none) (s x : Operand) (ho : o.op = .call { callee := .builtin .append, args := #[s, x], argTypes := #[51, 51] })
    {B C g cap : Nat} {v : Value} {L : List Sg} (hs : a.eval s = v) (hO : OwnB w B v []) (hx : a.eval x = .slice (some ⟨g, 0, none⟩) L.length cap) (hR : OwnB w C (.slice (some ⟨g, 0, none⟩) L.length cap) L) (hk : L.length < 100000) (hB : B ≤ w.heap.size)
    (h : ∀ v' w', OwnB w' B v' L → Off (fun b => v.ownBlock = some b) w w' → wpList Try.prog ops Q rest (a.put o.dst v') w') : wpList Try.prog ops Q (o :: rest) a w := by
  obtain ⟨i0, hi, hz0, hz1, hz2⟩ := info_parts infoB
  have hl : (L.flatMap sl).length = L.length * 3 := flat_len sl 3 sl_len L
  refine wpList_append_own w hgd s x _ ho B 67 i0 _ 3 16 Try.underlying51 hi hz0 hz1 hz2 rfl (by decide) v 0 _ hs hO ⟨g, 0, none⟩ L.length cap (L.flatMap sl) hx hl (fun j u hu => ?_) (fun u hu => ?_) (by unfold maxLen; omega) (by omega) hB fun v' w' h3 h4 _ => ?_
  · have hj : j < L.length * 3 := by rw [← hl]; exact (List.getElem?_eq_some_iff.1 hu).1
    rw [Addr.add_lit, Nat.zero_add, hR.cellAt j hj]
    exact hu
  · obtain ⟨p, _, hp⟩ := List.mem_flatMap.1 hu
    exact sl_one p u hp
  · refine h v' w' ?_ (Off.ofGrown h4 fun k e => e)
    unfold OwnB
    simpa using h3
end
end Go.Proofs.Ytafegmmcgghgaaa.B
namespace Go.Proofs.Ytafegmmcgghgaaa.B
set_option linter.unusedVariables false
set_option linter.unusedSimpArgs false
open Go.ChangeShapes Go.WideShapes Go.RowKit Go.Sort
def insB (x : Sg) : List Sg → List Sg
  | [] => [x]
  | p :: L => if x.b < p.b then x :: p :: L else p :: insB x L
/-- Where the loop stands. -/
def InsTo (x : Sg) (L X : List Sg) (i : Nat) (b : Bool) : Prop := (b = false ∧ X = L.take i ∧ insB x L = L.take i ++ insB x (L.drop i)) ∨ (b = true ∧ X ++ L.drop i = insB x L)
theorem inb_start (x : Sg) (L : List Sg) : InsTo x L [] 0 false := .inl ⟨rfl, by simp, by simp⟩
theorem inb_len {x : Sg} {L X : List Sg} {i : Nat} {b : Bool} (h : InsTo x L X i b) (hi : i ≤ L.length) : X.length ≤ L.length + 1 := by
  have hl : ∀ M : List Sg, (insB x M).length = M.length + 1 := by
    intro M
    induction M with
    | nil => rfl
    | cons p M ih => unfold insB; split <;> simp [ih]
  rcases h with ⟨_, rfl, _⟩ | ⟨_, h⟩
  · simp; omega
  · have := congrArg List.length h
    rw [hl] at this
    simp at this; omega
theorem inb_yes {x : Sg} {L X : List Sg} {i : Nat} {p : Sg} (h : InsTo x L X i false) (hp : L[i]? = some p) (hx : x.b < p.b) : InsTo x L (X ++ [x] ++ [p]) (i + 1) true := by
  have hil : i < L.length := (List.getElem?_eq_some_iff.1 hp).1
  have hd : L.drop i = p :: L.drop (i + 1) := by rw [List.drop_eq_getElem_cons hil, (List.getElem?_eq_some_iff.1 hp).2]
  rcases h with ⟨_, rfl, h⟩ | ⟨h, _⟩
  · refine .inr ⟨rfl, ?_⟩
    rw [h, hd]; unfold insB; rw [if_pos hx]; simp
  · cases h
theorem inb_no {x : Sg} {L X : List Sg} {i : Nat} {p : Sg} (h : InsTo x L X i false) (hp : L[i]? = some p) (hx : ¬ x.b < p.b) : InsTo x L (X ++ [p]) (i + 1) false := by
  have hil : i < L.length := (List.getElem?_eq_some_iff.1 hp).1
  have hd : L.drop i = p :: L.drop (i + 1) := by rw [List.drop_eq_getElem_cons hil, (List.getElem?_eq_some_iff.1 hp).2]
  have ht : L.take (i + 1) = L.take i ++ [p] := by rw [List.take_add_one, hp]; rfl
  rcases h with ⟨_, rfl, h⟩ | ⟨h, _⟩
  · refine .inl ⟨rfl, ht.symm, ?_⟩
    conv => lhs; rw [h, hd]; unfold insB
    rw [if_neg hx, ht]; simp
  · cases h
theorem inb_on {x : Sg} {L X : List Sg} {i : Nat} {p : Sg} (h : InsTo x L X i true) (hp : L[i]? = some p) : InsTo x L (X ++ [p]) (i + 1) true := by
  have hil : i < L.length := (List.getElem?_eq_some_iff.1 hp).1
  have hd : L.drop i = p :: L.drop (i + 1) := by rw [List.drop_eq_getElem_cons hil, (List.getElem?_eq_some_iff.1 hp).2]
  rcases h with ⟨h, _⟩ | ⟨_, h⟩
  · cases h
  · exact .inr ⟨rfl, by rw [← h, hd]; simp⟩
theorem inb_end {x : Sg} {L X : List Sg} {b : Bool} (h : InsTo x L X L.length b) : (b = false ∧ X ++ [x] = insB x L) ∨ (b = true ∧ X = insB x L) := by
  rcases h with ⟨rfl, rfl, h⟩ | ⟨rfl, h⟩
  · exact .inl ⟨rfl, by rw [h]; simp [insB]⟩
  · exact .inr ⟨rfl, by simpa using h⟩

theorem insB_perm (x : Sg) : ∀ L : List Sg, (x :: L).Perm (insB x L)
  | [] => List.Perm.refl _
  | p :: L => by
    unfold insB
    split
    · exact List.Perm.refl _
    · exact (List.Perm.swap p x L).trans ((insB_perm x L).cons p)
theorem insB_len (x : Sg) (L : List Sg) : (insB x L).length = L.length + 1 := by
  rw [← (insB_perm x L).length_eq]; rfl
theorem insB_mem (x : Sg) (L : List Sg) (y : Sg) : y ∈ insB x L ↔ y = x ∨ y ∈ L := by
  rw [← (insB_perm x L).mem_iff]; simp
/-- One lies ahead of the other. -/
def Sg.ahead (x y : Sg) : Prop := x.b + x.s ≤ y.b
def Sg.wf (x : Sg) : Prop := 0 ≤ x.b ∧ (0 < x.s ∧ x.s < 4294967296) ∧ x.b + x.s ≤ 4294967296 ∧ 0 ≤ x.n ∧ x.n < 6
/-- Regions of a bus, rising, apart. -/
structure Apt (M : List Sg) : Prop where
  so : M.Pairwise Sg.ahead
  wf : ∀ x ∈ M, x.wf
def anyM (b s : Int) (M : List Sg) : Bool := M.any fun x => meetB x.b x.s b s
theorem meetB_iff {b s c t : Int} (s0 : 0 < s) (t0 : 0 < t) : meetB b s c t = false ↔ (b + s ≤ c ∨ c + t ≤ b) := by
  unfold meetB
  simp
  constructor
  · intro h; (repeat' split at h) <;> omega
  · intro h; (repeat' split) <;> omega
theorem anyM_no {b s : Int} {M : List Sg} (h : anyM b s M = false) {x : Sg} (hx : x ∈ M) : meetB x.b x.s b s = false := by
  unfold anyM at h
  rw [List.any_eq_false] at h
  simpa using h x hx
theorem insB_so {x : Sg} (hx : x.wf) : ∀ {L : List Sg}, (∀ y ∈ L, y.wf) → (∀ y ∈ L, y.ahead x ∨ x.ahead y) → L.Pairwise Sg.ahead → (insB x L).Pairwise Sg.ahead
  | [], _, _, _ => by simp [insB]
  | p :: L, hw, ha, h => by
    rw [List.pairwise_cons] at h
    have hp := hw p List.mem_cons_self
    unfold Sg.wf at hx hp
    unfold insB
    split
    · rename_i hlt
      have hxp : x.ahead p := by
        rcases ha p List.mem_cons_self with h1 | h1
        · unfold Sg.ahead at h1; omega
        · exact h1
      rw [List.pairwise_cons, List.pairwise_cons]
      refine ⟨fun y hy => ?_, h⟩
      rcases List.mem_cons.1 hy with rfl | hy
      · exact hxp
      · have := h.1 y hy
        unfold Sg.ahead at *; omega
    · rename_i hlt
      have hpx : p.ahead x := by
        rcases ha p List.mem_cons_self with h1 | h1
        · exact h1
        · unfold Sg.ahead at h1; omega
      rw [List.pairwise_cons]
      refine ⟨fun y hy => ?_, insB_so (by unfold Sg.wf; exact hx) (fun y hy => hw y (List.mem_cons_of_mem _ hy)) (fun y hy => ha y (List.mem_cons_of_mem _ hy)) h.2⟩
      rcases (insB_mem x L y).1 hy with rfl | hy
      · exact hpx
      · exact h.1 y hy
theorem Apt.ins {M : List Sg} (h : Apt M) {x : Sg} (hx : x.wf) (hm : anyM x.b x.s M = false) : Apt (insB x M) := by
  refine ⟨insB_so hx h.wf (fun y hy => ?_) h.so, fun y hy => ?_⟩
  · have h1 := anyM_no hm hy
    have hy2 := h.wf y hy
    unfold Sg.wf at hx hy2
    rcases (meetB_iff hy2.2.1.1 hx.2.1.1).1 h1 with h2 | h2
    · exact .inl h2
    · exact .inr h2
  · rcases (insB_mem x M y).1 hy with rfl | hy
    · exact hx
    · exact h.wf y hy
theorem apt_nil : Apt [] := ⟨List.Pairwise.nil, by simp⟩
theorem Apt.one {M : List Sg} (h : Apt M) {x y : Sg} (hx : x ∈ M) (hy : y ∈ M) {a : Int} (h1 : hasB x.b x.s a = true) (h2 : hasB y.b y.s a = true) : x = y := by
  obtain ⟨i, hi, rfl⟩ := List.mem_iff_getElem.1 hx
  obtain ⟨j, hj, rfl⟩ := List.mem_iff_getElem.1 hy
  have hs := List.pairwise_iff_getElem.1 h.so
  unfold hasB at h1 h2
  simp at h1 h2
  rcases Nat.lt_trichotomy i j with hlt | he | hlt
  · have := hs i j hi hj hlt; unfold Sg.ahead at this; omega
  · subst he; rfl
  · have := hs j i hj hi hlt; unfold Sg.ahead at this; omega
/-- What an address is told of. -/
def findS (a : Int) (M : List Sg) : Option Sg := M.find? fun x => hasB x.b x.s a
theorem findS_some {a : Int} {M : List Sg} {x : Sg} (h : findS a M = some x) : x ∈ M ∧ hasB x.b x.s a = true := ⟨List.mem_of_find?_eq_some h, by simpa using List.find?_some h⟩
theorem findS_none {a : Int} {M : List Sg} (h : findS a M = none) : ∀ x ∈ M, hasB x.b x.s a = false := by
  unfold findS at h
  rw [List.find?_eq_none] at h
  intro x hx
  simpa using h x hx
/-- The code's bus has the document's regions: all of them, and in each page those that have addresses there. -/
structure Rel (dev : Int → Value) (ty : TypeId) (R : List (Int × Int)) (Lp : Int → List Su) (M : List Sg) : Prop where
  apt : Apt M
  rr : R = M.map fun x => (x.b, x.s)
  pg : ∀ u x, x ∈ Lp u ↔ ∃ y ∈ M, x = (⟨y.b, y.s, ty, dev y.n⟩ : Su) ∧ x.on u
theorem rel_nil (dev : Int → Value) (ty : TypeId) : Rel dev ty [] (fun _ => []) [] := ⟨apt_nil, rfl, fun u x => by simp⟩
section
variable {dev : Int → Value} {ty : TypeId} {R : List (Int × Int)} {Lp : Int → List Su} {M : List Sg}
theorem Rel.some (h : Rel dev ty R Lp M) {a : Int} {y : Sg} (hf : findS a M = some y) : findU a (Lp (a / 16777216)) = (.agg #[.int .u32 y.b, .int .u32 y.s, .iface ty (dev y.n)], 0) := by
  obtain ⟨hy, ha⟩ := findS_some hf
  have hin : (⟨y.b, y.s, ty, dev y.n⟩ : Su) ∈ Lp (a / 16777216) := by
    refine (h.pg _ _).2 ⟨y, hy, rfl, ?_⟩
    unfold hasB at ha
    simp at ha
    unfold Su.on
    have hw := h.apt.wf y hy
    unfold Sg.wf at hw
    simp only
    omega
  unfold findU
  cases hq : (Lp (a / 16777216)).find? (fun x => hasB x.b x.s a) with
  | none =>
    rw [List.find?_eq_none] at hq
    have := hq _ hin
    simp [ha] at this
  | some x =>
    have hx := List.mem_of_find?_eq_some hq
    have hxa := List.find?_some hq
    obtain ⟨z, hz, rfl, _⟩ := (h.pg _ _).1 hx
    have : z = y := h.apt.one hz hy (by simpa using hxa) ha
    subst this
    rfl
theorem Rel.none (h : Rel dev ty R Lp M) {a : Int} (hf : findS a M = none) : findU a (Lp (a / 16777216)) = (zeroSeatV, 10) := by
  unfold findU
  cases hq : (Lp (a / 16777216)).find? (fun x => hasB x.b x.s a) with
  | none => rfl
  | some x =>
    have hx := List.mem_of_find?_eq_some hq
    have hxa := List.find?_some hq
    obtain ⟨z, hz, rfl, _⟩ := (h.pg _ _).1 hx
    have := findS_none hf z hz
    simp [this] at hxa
theorem Rel.rb (h : Rel dev ty R Lp M) : ∀ x ∈ R, (0 ≤ x.1 ∧ x.1 < 4294967296) ∧ 0 ≤ x.2 ∧ x.2 < 4294967296 := by
  intro x hx
  rw [h.rr] at hx
  obtain ⟨y, hy, rfl⟩ := List.mem_map.1 hx
  have hw := h.apt.wf y hy
  unfold Sg.wf at hw
  simp only
  omega
theorem Rel.len (h : Rel dev ty R Lp M) : R.length = M.length := by rw [h.rr]; simp
theorem Rel.put (h : Rel dev ty R Lp M) {x : Sg} (hx : x.wf) (hm : anyM x.b x.s M = false) {R' : List (Int × Int)} (hp : R'.Perm (R ++ [(x.b, x.s)])) (hs : R'.Pairwise fun p q => p.1 ≤ q.1) : Rel dev ty R' (lpAll Lp ⟨x.b, x.s, ty, dev x.n⟩) (insB x M) := by
  have ha := h.apt.ins hx hm
  refine ⟨ha, ?_, fun u y => ?_⟩
  · have hq : R'.Perm ((insB x M).map fun y => (y.b, y.s)) := by
      refine hp.trans ?_
      rw [h.rr]
      refine List.Perm.trans ?_ ((insB_perm x M).map _)
      rw [List.map_cons]
      exact List.perm_append_singleton _ _
    have hso : ((insB x M).map fun y => (y.b, y.s)).Pairwise fun p q : Int × Int => p.1 ≤ q.1 := by
      rw [List.pairwise_map]
      refine List.Pairwise.imp_of_mem (fun {p q} hp2 hq2 hpq => ?_) ha.so
      have := ha.wf p hp2
      unfold Sg.wf at this
      unfold Sg.ahead at hpq
      simp only
      omega
    refine List.Perm.eq_of_pairwise (le := fun p q : Int × Int => p.1 ≤ q.1) (fun p q hp2 hq2 h1 h2 => ?_) hs hso hq
    obtain ⟨y, hy, rfl⟩ := List.mem_map.1 (hq.mem_iff.1 hp2)
    obtain ⟨z, hz, rfl⟩ := List.mem_map.1 hq2
    have e : y.b = z.b := Int.le_antisymm h1 h2
    have hy2 := ha.wf y hy
    have hz2 := ha.wf z hz
    unfold Sg.wf at hy2 hz2
    have : y = z := ha.one hy hz (a := y.b) (by unfold hasB; simp; omega) (by unfold hasB; simp; omega)
    rw [this]
  · unfold lpAll
    by_cases hon : x.b / 16777216 ≤ u ∧ u ≤ (x.b + (x.s - 1)) / 16777216
    · rw [if_pos hon, List.mem_append, h.pg u y]
      constructor
      · rintro (⟨z, hz, rfl, ho⟩ | hy)
        · exact ⟨z, (insB_mem x M z).2 (.inr hz), rfl, ho⟩
        · rw [List.mem_singleton] at hy
          subst hy
          exact ⟨x, (insB_mem x M x).2 (.inl rfl), rfl, hon⟩
      · rintro ⟨z, hz, rfl, ho⟩
        rcases (insB_mem x M z).1 hz with rfl | hz
        · exact .inr (by simp)
        · exact .inl ⟨z, hz, rfl, ho⟩
    · rw [if_neg hon, h.pg u y]
      constructor
      · rintro ⟨z, hz, rfl, ho⟩
        exact ⟨z, (insB_mem x M z).2 (.inr hz), rfl, ho⟩
      · rintro ⟨z, hz, rfl, ho⟩
        rcases (insB_mem x M z).1 hz with rfl | hz
        · exact absurd ho hon
        · exact ⟨z, hz, rfl, ho⟩
end
end Go.Proofs.Ytafegmmcgghgaaa.B
namespace Go.Proofs.Ytafegmmcgghgaaa.B
set_option linter.unusedVariables false
set_option linter.unusedSimpArgs false
open Go.ChangeShapes Go.WideShapes Go.RowKit Go.Sort
abbrev qT : TypeId := 61
theorem qAttachBad (b s n : Int) (v : Value) (w : World) (b0 : 0 ≤ b) (b1 : b < 4294967296) (s0 : 0 ≤ s) (s1 : s < 4294967296) (h : (b % 4 != 0) = true ∨ (b % 4 != 0) = false ∧ (s % 4 != 0) = true) :
    Calls Try.prog 20 #[v, .agg #[.int .u32 b, .int .u32 s], .int .i64 n] w fun e w' => e = .returned (.tuple #[v, .int .i64 11]) ∧ Below w.heap.size w w' := by
  rcases h with h1 | ⟨h1, h2⟩
  all_goals
    go_enter Try.func20, Try.ntmps20
    go_wp2_with fail
    go_ret2
    exact ⟨rfl, trA (tr0 w) _⟩
theorem qAttachZero (b n : Int) (v : Value) (w : World) (b0 : 0 ≤ b) (b1 : b < 4294967296) (h1 : (b % 4 != 0) = false) :
    Calls Try.prog 20 #[v, .agg #[.int .u32 b, .int .u32 0], .int .i64 n] w fun e w' => e = .returned (.tuple #[v, .int .i64 5]) ∧ Below w.heap.size w w' := by
  go_enter Try.func20, Try.ntmps20
  go_wp2_with fail
  go_ret2
  exact ⟨rfl, trA (tr0 w) _⟩
theorem qAttachRange (b s n : Int) (v : Value) (w : World) (b0 : 0 ≤ b) (b1 : b < 4294967296) (s0 : 0 ≤ s) (s1 : s < 4294967296) (h1 : (b % 4 != 0) = false) (h2 : (s % 4 != 0) = false) (h3 : (s == 0) = false) (h4 : 4294967296 < b + s) :
    Calls Try.prog 20 #[v, .agg #[.int .u32 b, .int .u32 s], .int .i64 n] w fun e w' => e = .returned (.tuple #[v, .int .i64 5]) ∧ Below w.heap.size w w' := by
  go_enter Try.func20, Try.ntmps20
  go_wp2_with fail
  go_ret2
  exact ⟨rfl, trA (tr0 w) _⟩
theorem qAttachMany (b s n : Int) (y : Option Addr) (len cap : Nat) (w : World) (b0 : 0 ≤ b) (b1 : b < 4294967296) (s0 : 0 ≤ s) (s1 : s < 4294967296) (h1 : (b % 4 != 0) = false) (h2 : (s % 4 != 0) = false) (h3 : (s == 0) = false) (h4 : b + s ≤ 4294967296) (h5 : 63 < len) (h6 : len < 100000) :
    Calls Try.prog 20 #[.slice y len cap, .agg #[.int .u32 b, .int .u32 s], .int .i64 n] w fun e w' => e = .returned (.tuple #[.slice y len cap, .int .i64 6]) ∧ Below w.heap.size w w' := by
  have h7 : (63 : Int) < (len : Int) := by omega
  go_enter Try.func20, Try.ntmps20
  go_wp2_with fail
  go_ret2
  exact ⟨rfl, trA (tr0 w) _⟩
/-- What Attach tells of a region that may be. -/
def QAtt (x : Sg) (v : Value) (M : List Sg) (w : World) (e : Ending) (w' : World) : Prop :=
  ∃ (v' : Value) (E : Int), e = .returned (.tuple #[v', .int .i64 E]) ∧ Below w.heap.size w w' ∧ ((anyM x.b x.s M = true ∧ E = 15 ∧ v' = v) ∨ (anyM x.b x.s M = false ∧ E = 0 ∧ OwnB w' w.heap.size v' (insB x M)))
def boxR (x : Sg) : Obj := .cells #[.int .u32 x.b, .int .u32 x.s] 61 (0, 0)
theorem anyM_take {b s : Int} {M : List Sg} {k : Nat} {p : Sg} (h : anyM b s (M.take k) = false) (hp : M[k]? = some p) (hm : meetB p.b p.s b s = false) : anyM b s (M.take (k + 1)) = false := by
  rw [List.take_add_one, hp]
  unfold anyM at *
  simp only [Option.toList, List.any_append, h, List.any_cons, List.any_nil, hm, Bool.or_false]
theorem anyM_yes {b s : Int} {M : List Sg} {k : Nat} {p : Sg} (hp : M[k]? = some p) (hm : meetB p.b p.s b s = true) : anyM b s M = true := by
  unfold anyM
  rw [List.any_eq_true]
  exact ⟨p, List.mem_of_getElem? hp, hm⟩
set_option maxRecDepth 100000 in
set_option maxHeartbeats 6400000 in
theorem qAttach0 (x : Sg) (hx : x.wf) {w : World} (h1 : (x.b % 4 != 0) = false) (h2 : (x.s % 4 != 0) = false) :
    Calls Try.prog 20 #[.slice none 0 0, .agg #[.int .u32 x.b, .int .u32 x.s], .int .i64 x.n] w (QAtt x (.slice none 0 0) [] w) := by
  obtain ⟨b, s, n⟩ := x
  unfold Sg.wf at hx
  obtain ⟨x0, ⟨x1, x1'⟩, x2, x3, x4⟩ := hx
  simp only at x0 x1 x1' x2 x3 x4 h1 h2
  have q3 : (s == 0) = false := by simp; omega
  have hb1 := trA (tr0 w) (boxR ⟨b, s, n⟩)
  have hX := blk_new w (boxR ⟨b, s, n⟩)
  have hs1 := lt_of_block hX
  go_enter Try.func20, Try.ntmps20
  go_upto_region 1 with (fail)
  rw [show Obj.cells #[.int .u32 b, .int .u32 s] 61 (0, 0) = boxR ⟨b, s, n⟩ from rfl]
  generalize w.alloc (boxR ⟨b, s, n⟩) = W at *
  unfold boxR at hX
  have y0 := blk_cell hX 0
  have y1 := blk_cell hX 1
  simp only [List.getElem?_toArray, List.getElem?_cons_zero, List.getElem?_cons_succ] at y0 y1
  go_wp2_with fail
  go_loopw [8, 9, 10] (fun u b' i wr => i = .int .i64 0 ∧ b' = .bool false ∧ OwnB wr w.heap.size u [] ∧ wr.heap[w.heap.size]? = some (.cells #[.int .u32 b, .int .u32 s] 61 (0, 0)) ∧ Below w.heap.size w wr) (fun _ _ _ _ => 0)
  case atStart => exact ⟨rfl, rfl, ownB_nil _ _, hX, hb1⟩
  case round =>
    clear hX hb1 y0 y1
    obtain ⟨rfl, rfl, O, hX, hB2⟩ := hrel
    have y0 := blk_cell hX 0
    have y1 := blk_cell hX 1
    simp only [List.getElem?_toArray, List.getElem?_cons_zero, List.getElem?_cons_succ] at y0 y1
    have hY := blk_new wr (.cells (sl ⟨b, s, n⟩).toArray 67 (0, 0))
    have hbA := trA (tr0 wr) (.cells (sl ⟨b, s, n⟩).toArray 67 (0, 0))
    have hb2 := tr hB2 hbA
    have hbs := hb2.size
    have OV := O.below hbA
    clear O hbA hX hB2
    go_wp2_with (refine appendB rfl (.tmp 82) (.tmp 86) rfl rfl OV rfl hY (by decide) hbs ?_; intro v' w5 O5 ho5)
    have B5 := Off.toBelow hb2 ho5 (fun b hb e => by have := (OV.block e).1; omega) (Nat.le_refl _)
    go_ret2
    exact ⟨_, 0, rfl, B5, .inr ⟨rfl, rfl, O5⟩⟩
set_option maxRecDepth 100000 in
set_option maxHeartbeats 6400000 in
theorem qAttach1 (x : Sg) (hx : x.wf) {B g cap : Nat} {M : List Sg} {w : World} (h1 : (x.b % 4 != 0) = false) (h2 : (x.s % 4 != 0) = false) (hcm : cap ≤ maxLen) (hnc : M.length ≤ cap) (hO : OwnB w B (.slice (some ⟨g, 0, none⟩) M.length cap) M) (hM : ∀ y ∈ M, y.wf) (hl : M.length < 64) :
    Calls Try.prog 20 #[.slice (some ⟨g, 0, none⟩) M.length cap, .agg #[.int .u32 x.b, .int .u32 x.s], .int .i64 x.n] w (QAtt x (.slice (some ⟨g, 0, none⟩) M.length cap) M w) := by
  obtain ⟨b, s, n⟩ := x
  unfold Sg.wf at hx
  obtain ⟨x0, ⟨x1, x1'⟩, x2, x3, x4⟩ := hx
  simp only at x0 x1 x1' x2 x3 x4 h1 h2
  have q3 : (s == 0) = false := by simp; omega
  have qb : b < 4294967296 := by omega
  have q63 : ¬ (63 : Int) < (M.length : Int) := by omega
  have hb1 := trA (tr0 w) (boxR ⟨b, s, n⟩)
  have hX := blk_new w (boxR ⟨b, s, n⟩)
  have hs1 := lt_of_block hX
  have O1 := hO.below hb1
  have hgw : ∀ q, (Value.slice (some ⟨g, 0, none⟩) M.length cap).ownBlock = some q → q < w.heap.size := fun q hq => (hO.block hq).2
  have HM := Lib.hid hM
  clear hO hM
  unfold maxLen at hcm
  go_enter Try.func20, Try.ntmps20
  go_upto_region 1 with (fail)
  rw [show Obj.cells #[.int .u32 b, .int .u32 s] 61 (0, 0) = boxR ⟨b, s, n⟩ from rfl]
  generalize w.alloc (boxR ⟨b, s, n⟩) = W at *
  unfold boxR at hX
  have y0 := blk_cell hX 0
  have y1 := blk_cell hX 1
  simp only [List.getElem?_toArray, List.getElem?_cons_zero, List.getElem?_cons_succ] at y0 y1
  go_wp2_with fail
  go_loopw [8, 9, 10] (fun u b' i wr => ∃ (k : Nat) (pt : Bool) (X : List Sg), k ≤ M.length ∧ i = .int .i64 k ∧ b' = .bool pt ∧ Hid (InsTo ⟨b, s, n⟩ M X k pt) ∧ Hid (anyM b s (M.take k) = false) ∧ OwnB wr (w.heap.size + 1) u X ∧ OwnB wr B (.slice (some ⟨g, 0, none⟩) M.length cap) M ∧ Below w.heap.size w wr ∧ wr.heap[w.heap.size]? = some (.cells #[.int .u32 b, .int .u32 s] 61 (0, 0))) (fun u b i wr => M.length - (intOf i).toNat)
  case atStart => exact ⟨0, false, [], by omega, rfl, rfl, Lib.hid (inb_start ⟨b, s, n⟩ M), Lib.hid rfl, ownB_nil _ _, O1, hb1, hX⟩
  case round =>
    clear O1 hb1 hX y0 y1
    obtain ⟨k, pt, X, hk, rfl, rfl, HI, HA, O, HL, hB2, hX⟩ := hrel
    have hwl := lt_of_block hX
    have y0 := blk_cell hX 0
    have y1 := blk_cell hX 1
    simp only [List.getElem?_toArray, List.getElem?_cons_zero, List.getElem?_cons_succ] at y0 y1
    by_cases hlt : k < M.length
    · obtain ⟨p, hp⟩ : ∃ p, M[k]? = some p := ⟨M[k], List.getElem?_eq_getElem hlt⟩
      have hlen := inb_len HI.out hk
      have HP := Lib.hid hp
      have hpw := HM.out p (List.mem_of_getElem? hp)
      have c0 := HL.cell hp 0 (by decide)
      have c1 := HL.cell hp 1 (by decide)
      simp only [sl, List.getElem?_cons_zero, List.getElem?_cons_succ, Nat.add_zero] at c0 c1
      have hgl := (HL.block rfl).2
      clear hp
      obtain ⟨pb, ps, pn⟩ := p
      unfold Sg.wf at hpw
      obtain ⟨p0, ⟨p1, p1'⟩, p2, p3, p4⟩ := hpw
      simp only at c0 c1 p0 p1 p1' p2 p3 p4
      have qp : pb < 4294967296 := by omega
      have hg := gcell
      obtain ⟨mv, hmv⟩ : ∃ m, meetB pb ps b s = m := ⟨_, rfl⟩
      have MT := Lib.hid (fun w => by have := rzMeet pb ps b s w p0 qp (Int.le_of_lt p1) p1' x0 qb (Int.le_of_lt x1) x1'; rw [hmv] at this; exact this)
      have HV := Lib.hid hmv
      clear hmv
      go_wp2_with fail
      refine wp_region_quiet_below (by kernel_rfl) (by kernel_rfl) ?_
      repeat (go_big_quiet_step (first | (go_at_call 48; exact Calls.regrown_of (MT.out _))))
      refine wpQuiet_nil ?_
      intro _ hw'
      obtain ⟨⟨dq, osq⟩, hw''⟩ := hw'
      subst hw''
      have hbr := below_regrown wr dq osq
      have O' := O.below hbr
      have HL' := HL.below hbr
      have hB' := tr hB2 hbr
      have hX' := blk_below hbr hX hwl
      clear O HL hB2 hX hbr c0 c1 y0 y1 hg hgl hwl
      have O := O'
      have HL := HL'
      have hB2 := hB'
      have hX := hX'
      clear O' HL' hB' hX'
      dsimp only at O HL hB2 hX ⊢
      generalize grow (redrawn wr dq) osq = W1 at *
      have hwl := lt_of_block hX
      have hgl := (HL.block rfl).2
      have y0 := blk_cell hX 0
      have y1 := blk_cell hX 1
      simp only [List.getElem?_toArray, List.getElem?_cons_zero, List.getElem?_cons_succ] at y0 y1
      have c0 := HL.cell HP.out 0 (by decide)
      have c1 := HL.cell HP.out 1 (by decide)
      have c2 := HL.cell HP.out 2 (by decide)
      simp only [sl, List.getElem?_cons_zero, List.getElem?_cons_succ, Nat.add_zero] at c0 c1 c2
      clear MT
      cases mv
      · have HA2 := Lib.hid (anyM_take HA.out HP.out HV.out)
        have hg := gcell
        cases pt
        · obtain ⟨lt, hlt2⟩ : ∃ d, decide (b < pb) = d := ⟨_, rfl⟩
          go_wp2_with fail
          refine wp_region_quiet_below (by kernel_rfl) (by kernel_rfl) ?_
          repeat (go_big_quiet_step (fail))
          refine wpQuiet_nil ?_
          intro _ hw'
          obtain ⟨⟨dq, osq⟩, hw''⟩ := hw'
          subst hw''
          have hbr := below_regrown W1 dq osq
          have O' := O.below hbr
          have HL' := HL.below hbr
          have hB' := tr hB2 hbr
          have hX' := blk_below hbr hX hwl
          clear O HL hB2 hX hbr c0 c1 y0 y1 hg hgl hwl
          have O := O'
          have HL := HL'
          have hB2 := hB'
          have hX := hX'
          clear O' HL' hB' hX'
          dsimp only at O HL hB2 hX ⊢
          generalize grow (redrawn W1 dq) osq = W2 at *
          have hwl := lt_of_block hX
          have hgl := (HL.block rfl).2
          have y0 := blk_cell hX 0
          have y1 := blk_cell hX 1
          simp only [List.getElem?_toArray, List.getElem?_cons_zero, List.getElem?_cons_succ] at y0 y1
          have c0 := HL.cell HP.out 0 (by decide)
          have c1 := HL.cell HP.out 1 (by decide)
          have c2 := HL.cell HP.out 2 (by decide)
          simp only [sl, List.getElem?_cons_zero, List.getElem?_cons_succ, Nat.add_zero] at c0 c1 c2
          cases lt
          · have hx : ¬ b < pb := by simpa using hlt2
            have HI2 := Lib.hid (inb_no HI.out HP.out hx)
            have hbA := trA (tr0 W2) (.cells (sl ⟨pb, ps, pn⟩).toArray 67 (0, 0))
            have OO := O.below hbA
            have HL2 := HL.below hbA
            have hX2 := blk_below hbA hX hwl
            have hY := blk_new W2 (.cells (sl ⟨pb, ps, pn⟩).toArray 67 (0, 0))
            have hb2 := tr hB2 hbA
            have hbs : w.heap.size + 1 ≤ (W2.alloc (.cells (sl ⟨pb, ps, pn⟩).toArray 67 (0, 0))).heap.size := by have := hbA.size; omega
            clear O HL hX hB2 hbA
            go_wp2_with (refine appendB rfl (.tmp 73) (.tmp 78) rfl rfl OO rfl hY (by first | omega | (simp; omega)) hbs ?_; intro v' w5 O5 ho5)
            have HL5 := HL2.off ho5 (fun q e hS => by have h1 := (OO.block hS).1; have h2 := hgw q e; omega)
            have hX5 := ho5.at hX2 (fun hS => by have h1 := (OO.block hS).1; omega)
            have B5 := Off.toBelow hb2 ho5 (fun q hq e => by have := (OO.block e).1; omega) (Nat.le_refl _)
            clear HL2 hX2 OO ho5 hb2 hY hbs
            have O := O5
            have HL := HL5
            have hX := hX5
            have hB2 := B5
            clear O5 HL5 hX5 B5
            go_wp2_with fail
            go_roundw
            case measure => simp [intOf]; omega
            case rel => exact ⟨k + 1, false, _, by omega, by first | rfl | go_num, by first | rfl | go_num, HI2, HA2, O, HL, hB2, hX⟩
          · have hx : b < pb := by simpa using hlt2
            have HI2 := Lib.hid (inb_yes HI.out HP.out hx)
            have hbA := trA (tr0 W2) (.cells (sl ⟨b, s, n⟩).toArray 67 (0, 0))
            have OO := O.below hbA
            have HL2 := HL.below hbA
            have hX2 := blk_below hbA hX hwl
            have hY := blk_new W2 (.cells (sl ⟨b, s, n⟩).toArray 67 (0, 0))
            have hb2 := tr hB2 hbA
            have hbs : w.heap.size + 1 ≤ (W2.alloc (.cells (sl ⟨b, s, n⟩).toArray 67 (0, 0))).heap.size := by have := hbA.size; omega
            clear O HL hX hB2 hbA
            go_upto_region 16 with (refine appendB rfl (.tmp 67) (.tmp 71) rfl rfl OO rfl hY (by first | omega | (simp; omega)) hbs ?_; intro v' w5 O5 ho5)
            have HL5 := HL2.off ho5 (fun q e hS => by have h1 := (OO.block hS).1; have h2 := hgw q e; omega)
            have hX5 := ho5.at hX2 (fun hS => by have h1 := (OO.block hS).1; omega)
            have B5 := Off.toBelow hb2 ho5 (fun q hq e => by have := (OO.block e).1; omega) (Nat.le_refl _)
            clear HL2 hX2 OO ho5 hb2 hY hbs
            have O := O5
            have HL := HL5
            have hX := hX5
            have hB2 := B5
            clear O5 HL5 hX5 B5
            have hwl := lt_of_block hX
            clear c0 c1 c2 y0 y1
            have c0 := HL.cell HP.out 0 (by decide)
            have c1 := HL.cell HP.out 1 (by decide)
            have c2 := HL.cell HP.out 2 (by decide)
            simp only [sl, List.getElem?_cons_zero, List.getElem?_cons_succ, Nat.add_zero] at c0 c1 c2
            have hbA := trA (tr0 w5) (.cells (sl ⟨pb, ps, pn⟩).toArray 67 (0, 0))
            have OO := O.below hbA
            have HL2 := HL.below hbA
            have hX2 := blk_below hbA hX hwl
            have hY := blk_new w5 (.cells (sl ⟨pb, ps, pn⟩).toArray 67 (0, 0))
            have hb2 := tr hB2 hbA
            have hbs : w.heap.size + 1 ≤ (w5.alloc (.cells (sl ⟨pb, ps, pn⟩).toArray 67 (0, 0))).heap.size := by have := hbA.size; omega
            clear O HL hX hB2 hbA
            go_wp2_with (refine appendB rfl (.tmp 73) (.tmp 78) rfl rfl OO rfl hY (by first | omega | (simp; omega)) hbs ?_; intro v' w5 O5 ho5)
            have HL5 := HL2.off ho5 (fun q e hS => by have h1 := (OO.block hS).1; have h2 := hgw q e; omega)
            have hX5 := ho5.at hX2 (fun hS => by have h1 := (OO.block hS).1; omega)
            have B5 := Off.toBelow hb2 ho5 (fun q hq e => by have := (OO.block e).1; omega) (Nat.le_refl _)
            clear HL2 hX2 OO ho5 hb2 hY hbs
            have O := O5
            have HL := HL5
            have hX := hX5
            have hB2 := B5
            clear O5 HL5 hX5 B5
            go_wp2_with fail
            go_roundw
            case measure => simp [intOf]; omega
            case rel => exact ⟨k + 1, true, _, by omega, by first | rfl | go_num, by first | rfl | go_num, HI2, HA2, O, HL, hB2, hX⟩
        · have HI2 := Lib.hid (inb_on HI.out HP.out)
          go_wp2_with fail
          refine wp_region_quiet_below (by kernel_rfl) (by kernel_rfl) ?_
          repeat (go_big_quiet_step (fail))
          refine wpQuiet_nil ?_
          intro _ hw'
          obtain ⟨⟨dq, osq⟩, hw''⟩ := hw'
          subst hw''
          have hbr := below_regrown W1 dq osq
          have O' := O.below hbr
          have HL' := HL.below hbr
          have hB' := tr hB2 hbr
          have hX' := blk_below hbr hX hwl
          clear O HL hB2 hX hbr c0 c1 y0 y1 hg hgl hwl
          have O := O'
          have HL := HL'
          have hB2 := hB'
          have hX := hX'
          clear O' HL' hB' hX'
          dsimp only at O HL hB2 hX ⊢
          generalize grow (redrawn W1 dq) osq = W2 at *
          have hwl := lt_of_block hX
          have hgl := (HL.block rfl).2
          have y0 := blk_cell hX 0
          have y1 := blk_cell hX 1
          simp only [List.getElem?_toArray, List.getElem?_cons_zero, List.getElem?_cons_succ] at y0 y1
          have c0 := HL.cell HP.out 0 (by decide)
          have c1 := HL.cell HP.out 1 (by decide)
          have c2 := HL.cell HP.out 2 (by decide)
          simp only [sl, List.getElem?_cons_zero, List.getElem?_cons_succ, Nat.add_zero] at c0 c1 c2
          have hbA := trA (tr0 W2) (.cells (sl ⟨pb, ps, pn⟩).toArray 67 (0, 0))
          have OO := O.below hbA
          have HL2 := HL.below hbA
          have hX2 := blk_below hbA hX hwl
          have hY := blk_new W2 (.cells (sl ⟨pb, ps, pn⟩).toArray 67 (0, 0))
          have hb2 := tr hB2 hbA
          have hbs : w.heap.size + 1 ≤ (W2.alloc (.cells (sl ⟨pb, ps, pn⟩).toArray 67 (0, 0))).heap.size := by have := hbA.size; omega
          clear O HL hX hB2 hbA
          go_wp2_with (refine appendB rfl (.tmp 73) (.tmp 78) rfl rfl OO rfl hY (by first | omega | (simp; omega)) hbs ?_; intro v' w5 O5 ho5)
          have HL5 := HL2.off ho5 (fun q e hS => by have h1 := (OO.block hS).1; have h2 := hgw q e; omega)
          have hX5 := ho5.at hX2 (fun hS => by have h1 := (OO.block hS).1; omega)
          have B5 := Off.toBelow hb2 ho5 (fun q hq e => by have := (OO.block e).1; omega) (Nat.le_refl _)
          clear HL2 hX2 OO ho5 hb2 hY hbs
          have O := O5
          have HL := HL5
          have hX := hX5
          have hB2 := B5
          clear O5 HL5 hX5 B5
          go_wp2_with fail
          go_roundw
          case measure => simp [intOf]; omega
          case rel => exact ⟨k + 1, true, _, by omega, by first | rfl | go_num, by first | rfl | go_num, HI2, HA2, O, HL, hB2, hX⟩
      · go_wp2_with fail
        go_ret2
        exact ⟨_, 15, rfl, hB2, .inl ⟨anyM_yes HP.out HV.out, rfl, rfl⟩⟩
    · obtain rfl : k = M.length := by omega
      have hany : anyM b s M = false := by have := HA.out; rwa [List.take_length] at this
      have HN := Lib.hid hany
      clear hany HA
      rcases inb_end HI.out with ⟨rfl, hE⟩ | ⟨rfl, hE⟩
      · have HE := Lib.hid hE
        have hlen := inb_len HI.out (Nat.le_refl _)
        clear hE HI
        have hbA := trA (tr0 wr) (.cells (sl ⟨b, s, n⟩).toArray 67 (0, 0))
        have OO := O.below hbA
        have hY := blk_new wr (.cells (sl ⟨b, s, n⟩).toArray 67 (0, 0))
        have hb2 := tr hB2 hbA
        have hbs : w.heap.size + 1 ≤ (wr.alloc (.cells (sl ⟨b, s, n⟩).toArray 67 (0, 0))).heap.size := by have := lt_of_block hX; have := hbA.size; omega
        clear O HL hX hB2 hbA
        go_wp2_with (refine appendB rfl (.tmp 82) (.tmp 86) rfl rfl OO rfl hY (by omega) hbs ?_; intro v' w5 O5 ho5)
        have B5 := Off.toBelow hb2 ho5 (fun b hb e => by have := (OO.block e).1; omega) (Nat.le_refl _)
        rw [HE.out] at O5
        have O6 : OwnB w5 w.heap.size v' (insB ⟨b, s, n⟩ M) := O5.base (fun b hb => by have := (O5.block hb).1; omega)
        go_ret2
        exact ⟨_, 0, rfl, B5, .inr ⟨HN.out, rfl, O6⟩⟩
      · subst hE
        have O6 := O.base (C := w.heap.size) (fun b hb => by have := (O.block hb).1; omega)
        go_wp2_with fail
        go_ret2
        exact ⟨_, 0, rfl, hB2, .inr ⟨HN.out, rfl, O6⟩⟩
theorem qAttach (x : Sg) (hx : x.wf) {B : Nat} {v : Value} {M : List Sg} {w : World} (h1 : (x.b % 4 != 0) = false) (h2 : (x.s % 4 != 0) = false) (hO : OwnB w B v M) (hM : ∀ y ∈ M, y.wf) (hl : M.length < 64) :
    Calls Try.prog 20 #[v, .agg #[.int .u32 x.b, .int .u32 x.s], .int .i64 x.n] w (QAtt x v M w) := by
  rcases hO.cases with ⟨rfl, rfl⟩ | ⟨g, cap, rfl, hB, hnc, hcm, hgl, _⟩
  · exact qAttach0 x hx h1 h2
  · exact qAttach1 x hx h1 h2 hcm hnc hO hM hl
end Go.Proofs.Ytafegmmcgghgaaa.B
namespace Go.Proofs.Ytafegmmcgghgaaa.B
set_option linter.unusedVariables false
set_option linter.unusedSimpArgs false
open Go.ChangeShapes Go.WideShapes Go.RowKit Go.Sort
theorem iQ3 : (Try.prog.info? 67).map (·.size) = some 3 := by kernel_rfl
def s0 : Sg := ⟨0, 0, 0⟩
def QAt (w : World) (b : Nat) (x : Sg) : Prop := w.heap[b]? = some (.cells (sl x).toArray tBt (0, 0))
section
variable {w w' : World} {b : Nat} {x : Sg}
theorem QAt.lt (h : QAt w b x) : b < w.heap.size := lt_of_block h
theorem QAt.below (h : QAt w b x) (hb : Below w.heap.size w w') : QAt w' b x := blk_below hb h h.lt
theorem QAt.free (h : QAt w b x) (j : Nat) : w.frozen? ⟨b, j, none⟩ = false := blk_free h j
theorem QAt.c0 (h : QAt w b x) : w.cell? ⟨b, 0, none⟩ = some (.int .u32 x.b) := by rw [blk_cell h 0]; rfl
theorem QAt.c1 (h : QAt w b x) : w.cell? ⟨b, 1, none⟩ = some (.int .u32 x.s) := by rw [blk_cell h 1]; rfl
theorem QAt.c2 (h : QAt w b x) : w.cell? ⟨b, 2, none⟩ = some (.int .i64 x.n) := by rw [blk_cell h 2]; rfl
theorem QAt.set (h : QAt w b x) (j : Nat) (u : Value) {y : Sg} (he : (sl x).set j u = sl y) : QAt (w.setCell ⟨b, j, none⟩ u) b y := by
  unfold QAt; rw [blk_set h, ← he]; simp
theorem QAt.row {old : Array Value} (h : w.heap[b]? = some (.cells old tBt (0, 0))) (t : Sg) : QAt (w.setRow b (sl t).toArray) b t := row_set _ h
end
def put3 (w : World) (b : Nat) (t : Sg) : World := ((w.setCell ⟨b, 0, none⟩ (.int .u32 t.b)).setCell ⟨b, 1, none⟩ (.int .u32 t.s)).setCell ⟨b, 2, none⟩ (.int .i64 t.n)
theorem put3_at {w : World} {b : Nat} {x : Sg} (h : QAt w b x) (t : Sg) : QAt (put3 w b t) b t := by
  have h1 : QAt _ b ⟨t.b, x.s, x.n⟩ := h.set 0 (.int .u32 t.b) rfl
  have h2 : QAt _ b ⟨t.b, t.s, x.n⟩ := h1.set 1 (.int .u32 t.s) rfl
  exact h2.set 2 (.int .i64 t.n) rfl
theorem put3_below {w0 w : World} {b : Nat} {B : Nat} (h : Below B w0 w) (hb : B ≤ b) (t : Sg) : Below B w0 (put3 w b t) :=
  ((h.setCell (p := ⟨b, 0, none⟩) (by exact hb) _).setCell (p := ⟨b, 1, none⟩) (by exact hb) _).setCell (p := ⟨b, 2, none⟩) (by exact hb) _
section
variable {ops : Array Oper} {rest : List Oper} {o : Oper} {a : Act} {w : World} {Q : Exit → Act → World → Prop}
theorem storeQ (hgd : o.guard = none) (x y : Operand) (ho : o.op = .store 67 x y) {b : Nat} (hx : a.eval x = .pointer (some ⟨b, 0, none⟩)) {t : Sg} (hy : a.eval y = .agg (sl t).toArray) {t' : Sg} (hg : QAt w b t')
    (h : wpList Try.prog ops Q rest (a.put o.dst undef) (w.setRow b (sl t).toArray)) : wpList Try.prog ops Q (o :: rest) a w := by
  refine wpList_store_part hgd _ x y ho b 0 hx (sl t) hy hg iQ3 (by simp [sl]) (sl_one _) ?_
  rw [spliced_all _ _ (by simp [sl])]
  exact h
end
theorem resQ {fn : Func} {p q r : Tmp} (h : fn.results = #[.cell p 67, .tmp q, .tmp r]) (tmps : Array Value) (w : World) {b : Nat} {t : Sg} (x y : Value) (hp : tmps[p]? = some (.pointer (some ⟨b, 0, none⟩))) (hq : tmps[q]? = some x) (hr : tmps[r]? = some y) (hg : QAt w b t) :
    (results fn tmps).run Try.prog w = .ok (.tuple #[.agg (sl t).toArray, x, y]) w := by
  simp [results, h, hp, hq, hr, asAddr, loadVar_part w b 0 _ _ _ _ _ (sl t) hg Try.underlying67 rfl iQ3 (part_all _)]
def zQ : Obj := .cells (sl s0).toArray tBt (0, 0)
theorem zQ_eq : Obj.cells #[.int .u32 0, .int .u32 0, .int .i64 0] 67 (0, 0) = zQ := rfl
/-- What Find tells. -/
def fres (a : Int) (M : List Sg) : Sg × Int × Int := if (a % 4 != 0) = true then (s0, 0, 11) else match findS a M with
  | some y => (y, a - y.b, 0)
  | none => (s0, 0, 10)
def QFind (a : Int) (M : List Sg) (w : World) (e : Ending) (w' : World) : Prop :=
  e = .returned (.tuple #[.agg (sl (fres a M).1).toArray, .int .u32 (fres a M).2.1, .int .i64 (fres a M).2.2]) ∧ Below w.heap.size w w'
theorem qFindBad (a : Int) (v : Value) (M : List Sg) (w : World) (a0 : 0 ≤ a) (a1 : a < 4294967296) (h : (a % 4 != 0) = true) : Calls Try.prog 26 #[v, .int .u32 a] w (QFind a M w) := by
  have hr : fres a M = (s0, 0, 11) := by unfold fres; rw [if_pos h]
  unfold QFind
  rw [hr]
  have hb := trA (tr0 w) zQ
  have X : QAt (w.alloc zQ) w.heap.size s0 := blk_new w zQ
  go_enter Try.func26, Try.ntmps26
  go_upto_region 1 with (fail)
  rw [zQ_eq]
  generalize w.alloc zQ = W at *
  have Z := QAt.row X s0
  have hB2 := below_setRow hb (sl s0).toArray (g := w.heap.size) (Nat.le_refl _)
  go_wp2_with (refine storeQ rfl (.tmp 4) (.tmp 11) rfl rfl (t := s0) rfl X ?_)
  exact bodyPost_ret (resQ rfl _ _ _ _ rfl rfl rfl Z) rfl ⟨rfl, hB2⟩
theorem qFind0 (a : Int) (w : World) (a0 : 0 ≤ a) (a1 : a < 4294967296) (h : (a % 4 != 0) = false) : Calls Try.prog 26 #[.slice none 0 0, .int .u32 a] w (QFind a [] w) := by
  have hr : fres a [] = (s0, 0, 10) := by unfold fres; rw [if_neg (by rw [h]; simp)]; rfl
  unfold QFind
  rw [hr]
  have hb := trA (tr0 w) zQ
  have X : QAt (w.alloc zQ) w.heap.size s0 := blk_new w zQ
  go_enter Try.func26, Try.ntmps26
  go_upto_region 1 with (fail)
  rw [zQ_eq]
  generalize w.alloc zQ = W at *
  have Z := QAt.row X s0
  have hB2 := below_setRow hb (sl s0).toArray (g := w.heap.size) (Nat.le_refl _)
  go_wp2_with fail
  refine wp_loop_rounds 1 ?_
  rw [rounds_succ]
  go_wp2_with (refine storeQ rfl (.tmp 4) (.tmp 37) rfl rfl (t := s0) rfl X ?_)
  exact bodyPost_ret (resQ rfl _ _ _ _ rfl rfl rfl Z) rfl ⟨rfl, hB2⟩
theorem findS_at {a : Int} {M : List Sg} {k : Nat} {p : Sg} (h : ∀ y ∈ M.take k, hasB y.b y.s a = false) (hp : M[k]? = some p) (hh : hasB p.b p.s a = true) : findS a M = some p := by
  have hkl : k < M.length := (List.getElem?_eq_some_iff.1 hp).1
  unfold findS
  rw [← List.take_append_drop k M, List.find?_append]
  have h1 : (M.take k).find? (fun x => hasB x.b x.s a) = none := by
    rw [List.find?_eq_none]; intro y hy; simp [h y hy]
  rw [h1, Option.none_or, List.drop_eq_getElem_cons hkl, (List.getElem?_eq_some_iff.1 hp).2, List.find?_cons]; simp [hh]
theorem findS_no {a : Int} {M : List Sg} (h : ∀ y ∈ M, hasB y.b y.s a = false) : findS a M = none := by
  unfold findS; rw [List.find?_eq_none]; intro y hy; simp [h y hy]
set_option maxRecDepth 100000 in
set_option maxHeartbeats 6400000 in
theorem qFind1 (a : Int) {B g cap : Nat} {M : List Sg} {w : World} (a0 : 0 ≤ a) (a1 : a < 4294967296) (h : (a % 4 != 0) = false) (hcm : cap ≤ maxLen) (hnc : M.length ≤ cap) (hO : OwnB w B (.slice (some ⟨g, 0, none⟩) M.length cap) M) (hM : ∀ y ∈ M, y.wf) (hl : M.length < 100000) :
    Calls Try.prog 26 #[.slice (some ⟨g, 0, none⟩) M.length cap, .int .u32 a] w (QFind a M w) := by
  have hb := trA (tr0 w) zQ
  have X : QAt (w.alloc zQ) w.heap.size s0 := blk_new w zQ
  have O1 := hO.below hb
  have HM := Lib.hid hM
  have hgw : g ≠ w.heap.size := by have := (hO.block (b := g) rfl).2; omega
  clear hO hM
  unfold maxLen at hcm
  go_enter Try.func26, Try.ntmps26
  go_upto_region 1 with (fail)
  rw [zQ_eq]
  generalize w.alloc zQ = W at *
  go_wp2_with fail
  go_loopw [7] (fun i wr => ∃ k : Nat, k ≤ M.length ∧ i = .int .i64 k ∧ Hid (∀ y ∈ M.take k, hasB y.b y.s a = false) ∧ OwnB wr B (.slice (some ⟨g, 0, none⟩) M.length cap) M ∧ QAt wr w.heap.size s0 ∧ Below w.heap.size w wr) (fun i wr => M.length - (intOf i).toNat)
  case atStart => exact ⟨0, by omega, rfl, Lib.hid (by simp), O1, X, hb⟩
  case round =>
    clear O1 X hb
    obtain ⟨k, hk, rfl, HA, HL, X, hB⟩ := hrel
    by_cases hlt : k < M.length
    · obtain ⟨p, hp⟩ : ∃ p, M[k]? = some p := ⟨M[k], List.getElem?_eq_getElem hlt⟩
      have HP := Lib.hid hp
      have hpw := HM.out p (List.mem_of_getElem? hp)
      have c0 := HL.cell hp 0 (by decide)
      have c1 := HL.cell hp 1 (by decide)
      simp only [sl, List.getElem?_cons_zero, List.getElem?_cons_succ, Nat.add_zero] at c0 c1
      clear hp
      obtain ⟨pb, ps, pn⟩ := p
      unfold Sg.wf at hpw
      obtain ⟨p0, ⟨p1, p1'⟩, p2, p3, p4⟩ := hpw
      simp only at c0 c1 p0 p1 p1' p2 p3 p4
      obtain ⟨hv, hhv⟩ : ∃ b, hasB pb ps a = b := ⟨_, rfl⟩
      have HT := Lib.hid (fun w => by have := rzHas pb ps a w p0 (by omega) (by omega) p1' a0 a1; rw [hhv] at this; exact this)
      have HV := Lib.hid hhv
      have hle : hv = true → pb ≤ a := fun e => by rw [e] at hhv; unfold hasB at hhv; simp at hhv; exact hhv.1
      clear hhv
      go_wp2_with fail
      refine (HT.out _).mono ?_
      rintro e W1 ⟨rfl, hb1⟩
      have HL1 := HL.below hb1
      have X1 := X.below hb1
      have B1 := tr hB hb1
      clear HL X hB hb1 HT c0 c1
      have c0 := HL1.cell HP.out 0 (by decide)
      have c1 := HL1.cell HP.out 1 (by decide)
      have c2 := HL1.cell HP.out 2 (by decide)
      simp only [sl, List.getElem?_cons_zero, List.getElem?_cons_succ, Nat.add_zero] at c0 c1 c2
      cases hv
      · have HA2 : Hid (∀ y ∈ M.take (k + 1), hasB y.b y.s a = false) := Lib.hid (fun y hy => by
          rw [List.take_add_one, HP.out, List.mem_append] at hy
          rcases hy with hy | hy
          · exact HA.out y hy
          · simp at hy; rw [hy]; exact HV.out)
        go_wp2_with fail
        go_roundw
        case rel => exact ⟨k + 1, by omega, by go_num, HA2, HL1, X1, B1⟩
        case measure => simp [intOf]; omega
      · have hr : fres a M = (⟨pb, ps, pn⟩, a - pb, 0) := by unfold fres; rw [if_neg (by rw [h]; simp), findS_at HA.out HP.out HV.out]
        have hlep := hle rfl
        have hgl := (HL1.block rfl).2
        have r0 := X1.c0
        have r1 := X1.c1
        have r2 := X1.c2
        have f := X1.free
        have HR := Lib.hid hr
        have HX := Lib.hid X1
        have HB := Lib.hid B1
        clear hr HL1 X1 B1 hle
        go_wp2_with fail
        go_big_region
        have X3 : QAt (put3 W1 w.heap.size ⟨pb, ps, pn⟩).drew w.heap.size ⟨pb, ps, pn⟩ := (put3_at HX.out _).below (trD (tr0 _))
        have B3 := trD (put3_below HB.out (Nat.le_refl _) ⟨pb, ps, pn⟩)
        all_goals
          go_wp2_with fail
          exact bodyPost_ret (resQ rfl _ _ _ _ rfl rfl rfl X3) rfl ⟨by rw [HR.out]; rfl, B3⟩
    · obtain rfl : k = M.length := by omega
      have hr : fres a M = (s0, 0, 10) := by unfold fres; rw [if_neg (by rw [h]; simp), findS_no (by have := HA.out; rwa [List.take_length] at this)]
      have Z := QAt.row X s0
      have hB2 := below_setRow hB (sl s0).toArray (g := w.heap.size) (Nat.le_refl _)
      have HR := Lib.hid hr
      clear hr
      go_wp2_with (refine storeQ rfl (.tmp 4) (.tmp 37) rfl rfl (t := s0) rfl X ?_)
      exact bodyPost_ret (resQ rfl _ _ _ _ rfl rfl rfl Z) rfl ⟨by rw [HR.out]; rfl, hB2⟩
theorem qFind (a : Int) {B : Nat} {v : Value} {M : List Sg} {w : World} (a0 : 0 ≤ a) (a1 : a < 4294967296) (hO : OwnB w B v M) (hM : ∀ y ∈ M, y.wf) (hl : M.length < 100000) :
    Calls Try.prog 26 #[v, .int .u32 a] w (QFind a M w) := by
  cases h : (a % 4 != 0)
  · rcases hO.cases with ⟨rfl, rfl⟩ | ⟨g, cap, rfl, hB, hnc, hcm, hgl, _⟩
    · exact qFind0 a w a0 a1 h
    · exact qFind1 a a0 a1 h hcm hnc hO hM hl
  · exact qFindBad a v M w a0 a1 h
end Go.Proofs.Ytafegmmcgghgaaa.B
namespace Go.Proofs.Ytafegmmcgghgaaa.B
set_option linter.unusedVariables false
set_option linter.unusedSimpArgs false
open Go.ChangeShapes Go.WideShapes Go.RowKit Go.Sort
abbrev tS1 : TypeId := 25
abbrev tP1 : TypeId := 23
/-- A row of such values. -/
def OwnV (w : World) (B : Nat) (T : TypeId) (v : Value) (l : List Value) : Prop := w.ownsRow B T 1 v l.length l
section
variable {w w' : World} {B g cap : Nat} {T : TypeId} {v : Value} {l : List Value}
theorem ownV_nil (w : World) (B : Nat) (T : TypeId) : OwnV w B T (.slice none 0 0) [] := World.ownsRow_nil w B T 1
theorem OwnV.cases (h : OwnV w B T v l) : (v = .slice none 0 0 ∧ l = []) ∨ ∃ g cap, v = .slice (some ⟨g, 0, none⟩) l.length cap ∧ B ≤ g ∧ l.length ≤ cap ∧ cap ≤ maxLen ∧ g < w.heap.size ∧ ∃ cur, w.heap[g]? = some (.cells cur T (0, 0)) := by
  rcases h.2 with ⟨h1, h2⟩ | ⟨g, cap, cur, h1, hB, hg, hnc, hcm, hcs, htk⟩
  · exact .inl ⟨h1, List.eq_nil_of_length_eq_zero h2⟩
  · exact .inr ⟨g, cap, h1, hB, hnc, hcm, lt_of_block hg, cur, hg⟩
theorem OwnV.below (h : OwnV w B T v l) (hb : Below w.heap.size w w') : OwnV w' B T v l := by
  refine ⟨h.1, ?_⟩
  rcases h.2 with h1 | ⟨g, cap, cur, h1, h2, h3, h4⟩
  · exact .inl h1
  · exact .inr ⟨g, cap, cur, h1, h2, blk_below hb h3 (lt_of_block h3), h4⟩
theorem OwnV.off {S : Nat → Prop} (h : OwnV w B T v l) (ho : Off S w w') (hs : ∀ k, v.ownBlock = some k → ¬ S k) : OwnV w' B T v l := by
  refine ⟨h.1, ?_⟩
  rcases h.2 with h1 | ⟨g, cap, cur, h1, h2, h3, h4⟩
  · exact .inl h1
  · exact .inr ⟨g, cap, cur, h1, h2, ho.at h3 (hs g (by rw [h1]; rfl)), h4⟩
theorem OwnV.base (h : OwnV w B T v l) {C : Nat} (hC : ∀ k, v.ownBlock = some k → C ≤ k) : OwnV w C T v l := by
  refine ⟨h.1, ?_⟩
  rcases h.2 with h1 | ⟨g, cap, cur, h1, h2, h3, h4⟩
  · exact .inl h1
  · exact .inr ⟨g, cap, cur, h1, hC g (by rw [h1]; rfl), h3, h4⟩
theorem OwnV.block (h : OwnV w B T v l) {b : Nat} (hb : v.ownBlock = some b) : B ≤ b ∧ b < w.heap.size := World.ownsRow.lt h b hb
theorem OwnV.ty (h : OwnV w B T v l) {b : Nat} (hb : v.ownBlock = some b) : ∃ cur, w.heap[b]? = some (.cells cur T (0, 0)) := by
  rcases h.2 with ⟨rfl, _⟩ | ⟨g, cap, cur, rfl, h2, h3, h4⟩
  · cases hb
  · cases hb; exact ⟨cur, h3⟩
theorem OwnV.cell (h : OwnV w B T (.slice (some ⟨g, 0, none⟩) l.length cap) l) {i : Nat} {x : Value} (hx : l[i]? = some x) : w.cell? ⟨g, i, none⟩ = some x := by
  have hi : i < l.length := (List.getElem?_eq_some_iff.1 hx).1
  rw [World.ownsRow.cellAt h i (by omega), hx]
theorem OwnV.free (h : OwnV w B T (.slice (some ⟨g, 0, none⟩) l.length cap) l) (i : Nat) : w.frozen? ⟨g, i, none⟩ = false := by
  obtain ⟨cur, hc⟩ := h.ty (b := g) rfl
  exact blk_free hc i
theorem OwnV.set (h : OwnV w B T (.slice (some ⟨g, 0, none⟩) l.length cap) l) {i : Nat} (hi : i < l.length) (x : Value) : OwnV (w.setCell ⟨g, i, none⟩ x) B T (.slice (some ⟨g, 0, none⟩) (l.set i x).length cap) (l.set i x) := by
  refine ⟨by simp, ?_⟩
  rcases h.2 with ⟨h1, _⟩ | ⟨g', cap', cur, h1, h2, h3, h4, h5, h6, h7⟩
  · cases h1
  · cases h1
    refine .inr ⟨g, cap, cur.setIfInBounds i x, rfl, h2, blk_set h3 i x, by simpa using h4, h5, by simpa using h6, ?_⟩
    rw [Nat.mul_one] at h7 ⊢
    rw [List.length_set, Array.toList_setIfInBounds, List.take_set, h7]
end
theorem infoS1 : (Try.prog.info? 25).map (fun i => (i.zero, i.size, i.bytes)) = some (some (.slice none 0 0), 1, 24) := by kernel_rfl
theorem infoP1 : (Try.prog.info? 23).map (fun i => (i.zero, i.size, i.bytes)) = some (some (.pointer none), 1, 8) := by kernel_rfl
section
variable {ops : Array Oper} {rest : List Oper} {o : Oper} {a : Act} {w : World} {Q : Exit → Act → World → Prop}
theorem appendP (hgd : o.guard = none) (s x : Operand) (ho : o.op = .call { callee := .builtin .append, args := #[s, x], argTypes := #[52, 52] })
    {B g : Nat} {v : Value} {l : List Value} {p : Value} {ty : TypeId} {fr : Nat × Nat} (hs : a.eval s = v) (hO : OwnV w B tP1 v l) (hx : a.eval x = .slice (some ⟨g, 0, none⟩) 1 1) (hy : w.heap[g]? = some (.cells #[p] ty fr)) (hp : p.oneCell' = true) (hk : l.length < 100000) (hB : B ≤ w.heap.size)
    (h : ∀ v' w', OwnV w' B tP1 v' (l ++ [p]) → Off (fun b => v.ownBlock = some b) w w' → wpList Try.prog ops Q rest (a.put o.dst v') w') : wpList Try.prog ops Q (o :: rest) a w := by
  obtain ⟨i0, hi, hz0, hz1, hz2⟩ := info_parts infoP1
  refine wpList_append_own w hgd s x _ ho B 23 i0 _ 1 8 Try.underlying52 hi hz0 hz1 hz2 rfl (by decide) v l.length _ hs hO ⟨g, 0, none⟩ 1 1 [p] hx rfl (fun j u hu => ?_) (fun u hu => by rw [List.mem_singleton] at hu; rw [hu]; exact hp) (by unfold maxLen; omega) (by omega) hB fun v' w' h3 h4 _ => ?_
  · rw [Addr.add_lit, Nat.zero_add, cell_of_row w g j _ _ _ hy]
    simpa using hu
  · refine h v' w' ?_ (Off.ofGrown h4 fun k e => e)
    unfold OwnV
    simpa using h3
theorem appendS (hgd : o.guard = none) (s x : Operand) (ho : o.op = .call { callee := .builtin .append, args := #[s, x], argTypes := #[53, 53] })
    {B g : Nat} {v : Value} {l : List Value} {p : Value} {ty : TypeId} {fr : Nat × Nat} (hs : a.eval s = v) (hO : OwnV w B tS1 v l) (hx : a.eval x = .slice (some ⟨g, 0, none⟩) 1 1) (hy : w.heap[g]? = some (.cells #[p] ty fr)) (hp : p.oneCell' = true) (hk : l.length < 100000) (hB : B ≤ w.heap.size)
    (h : ∀ v' w', OwnV w' B tS1 v' (l ++ [p]) → Off (fun b => v.ownBlock = some b) w w' → wpList Try.prog ops Q rest (a.put o.dst v') w') : wpList Try.prog ops Q (o :: rest) a w := by
  obtain ⟨i0, hi, hz0, hz1, hz2⟩ := info_parts infoS1
  refine wpList_append_own w hgd s x _ ho B 25 i0 _ 1 24 Try.underlying53 hi hz0 hz1 hz2 rfl (by decide) v l.length _ hs hO ⟨g, 0, none⟩ 1 1 [p] hx rfl (fun j u hu => ?_) (fun u hu => by rw [List.mem_singleton] at hu; rw [hu]; exact hp) (by unfold maxLen; omega) (by omega) hB fun v' w' h3 h4 _ => ?_
  · rw [Addr.add_lit, Nat.zero_add, cell_of_row w g j _ _ _ hy]
    simpa using hu
  · refine h v' w' ?_ (Off.ofGrown h4 fun k e => e)
    unfold OwnV
    simpa using h3
theorem appendAllS (hgd : o.guard = none) (s x : Operand) (ho : o.op = .call { callee := .builtin .append, args := #[s, x], argTypes := #[53, 53] })
    {B C g cap : Nat} {v : Value} {l : List Value} (hs : a.eval s = v) (hO : OwnV w B tS1 v []) (hx : a.eval x = .slice (some ⟨g, 0, none⟩) l.length cap) (hR : OwnV w C tS1 (.slice (some ⟨g, 0, none⟩) l.length cap) l) (hone : ∀ u ∈ l, u.oneCell' = true) (hk : l.length < 100000) (hB : B ≤ w.heap.size)
    (h : ∀ v' w', OwnV w' B tS1 v' l → Off (fun b => v.ownBlock = some b) w w' → wpList Try.prog ops Q rest (a.put o.dst v') w') : wpList Try.prog ops Q (o :: rest) a w := by
  obtain ⟨i0, hi, hz0, hz1, hz2⟩ := info_parts infoS1
  refine wpList_append_own w hgd s x _ ho B 25 i0 _ 1 24 Try.underlying53 hi hz0 hz1 hz2 rfl (by decide) v 0 _ hs hO ⟨g, 0, none⟩ l.length cap l hx (by simp) (fun j u hu => ?_) hone (by unfold maxLen; omega) (by omega) hB fun v' w' h3 h4 _ => ?_
  · have hj : j < l.length := (List.getElem?_eq_some_iff.1 hu).1
    rw [Addr.add_lit, Nat.zero_add, World.ownsRow.cellAt hR j (by omega)]
    exact hu
  · refine h v' w' ?_ (Off.ofGrown h4 fun k e => e)
    unfold OwnV
    simpa using h3
end
end Go.Proofs.Ytafegmmcgghgaaa.B
namespace Go.Proofs.Ytafegmmcgghgaaa.B
set_option linter.unusedVariables false
set_option linter.unusedSimpArgs false
open Go.ChangeShapes Go.WideShapes Go.RowKit Go.Sort
/-- Six values. -/
def six (V : Nat → Value) : List Value := (List.range 6).map V
theorem six_len (V : Nat → Value) : (six V).length = 6 := by simp [six]
theorem six_at (V : Nat → Value) {i : Nat} (hi : i < 6) : (six V)[i]? = some (V i) := by
  unfold six; rw [List.getElem?_map, List.getElem?_range hi]; rfl
def updV (V : Nat → Value) (i : Nat) (x : Value) : Nat → Value := fun j => if j = i then x else V j
theorem six_set (V : Nat → Value) (i : Nat) (x : Value) : (six V).set i x = six (updV V i x) := by
  refine List.ext_getElem? fun j => ?_
  rw [List.getElem?_set]
  by_cases hj : j < 6
  · rw [six_at _ hj, six_at _ hj]
    unfold updV
    by_cases e : i = j
    · subst e; rw [if_pos rfl, if_pos rfl, if_pos (by rw [six_len]; exact hj)]
    · rw [if_neg e, if_neg (fun h => e h.symm)]
  · have h1 : ∀ W, (six W)[j]? = none := fun W => List.getElem?_eq_none (by rw [six_len]; omega)
    rw [h1, h1]
    split
    · rename_i e
      subst e
      rw [if_neg (by rw [six_len]; exact hj)]
    · rfl
theorem fres_err {a : Int} {M : List Sg} (h : (fres a M).2.2 ≠ 0) : fres a M = (s0, 0, (fres a M).2.2) := by
  unfold fres at *
  split
  · rfl
  · rename_i h1
    rw [if_neg h1] at h
    cases hq : findS a M with
    | none => rfl
    | some y => rw [hq] at h; exact absurd rfl h
theorem fres_hit {a : Int} {M : List Sg} {y : Sg} (h1 : (a % 4 != 0) = false) (h : findS a M = some y) : fres a M = (y, a - y.b, 0) := by
  unfold fres; rw [if_neg (by rw [h1]; simp), h]
section
variable {a : Int} {B C : Nat} {lv : Value} {M : List Sg} {w : World}
theorem qLoadErr (mv : Value) (E : Int) (hE : fres a M = (s0, 0, E)) (hne : E ≠ 0) (a0 : 0 ≤ a) (a1 : a < 4294967296) (hO : OwnB w B lv M) (hM : ∀ y ∈ M, y.wf) (hl : M.length < 100000) :
    Calls Try.prog 22 #[lv, mv, .int .u32 a] w fun e w' => e = .returned (.tuple #[.int .u32 0, .int .i64 E]) ∧ Below w.heap.size w w' := by
  have F := qFind a a0 a1 hO hM hl
  unfold QFind at F
  rw [hE] at F
  have q : (E != 0) = true := by simpa using hne
  clear hO hM hE
  go_enter Try.func22, Try.ntmps22
  go_wp2_with fail
  refine F.mono ?_
  rintro e w1 ⟨rfl, hb⟩
  have Y : QAt (w1.alloc zQ) w1.heap.size s0 := blk_new w1 zQ
  have hB2 := below_setRow (tr hb (trA (tr0 w1) zQ)) (sl s0).toArray (g := w1.heap.size) hb.size
  clear F
  go_wp2_with (refine storeQ rfl (.tmp 8) (.tmp 15) rfl rfl (t := s0) rfl Y ?_)
  go_ret2
  exact ⟨rfl, hB2⟩
set_option maxRecDepth 100000 in
set_option maxHeartbeats 1600000 in
theorem qLoadHit (y : Sg) (k : Nat) (V : Nat → Value) (x E : Int) {mg mc : Nat} (h1 : (a % 4 != 0) = false) (hf : findS a M = some y) (hk : y.n = (k : Int)) (hk6 : k < 6) (hya : y.b ≤ a) (hy0 : 0 ≤ y.b) (a0 : 0 ≤ a) (a1 : a < 4294967296) (hO : OwnB w B lv M) (hM : ∀ y ∈ M, y.wf) (hl : M.length < 100000)
    (hV : OwnV w C tS1 (.slice (some ⟨mg, 0, none⟩) (six V).length mc) (six V)) (hmc : (six V).length ≤ mc) (hmm : mc ≤ maxLen)
    (hC : ∀ w', Below w.heap.size w w' → Calls Try.prog 8 #[V k, .int .u32 (a - y.b)] w' fun e w'' => e = .returned (.tuple #[.int .u32 x, .int .i64 E]) ∧ w' = w'') :
    Calls Try.prog 22 #[lv, .slice (some ⟨mg, 0, none⟩) 6 mc, .int .u32 a] w fun e w' => e = .returned (.tuple #[.int .u32 x, .int .i64 E]) ∧ Below w.heap.size w w' := by
  have F := qFind a a0 a1 hO hM hl
  unfold QFind at F
  rw [fres_hit h1 hf] at F
  have HC := Lib.hid hC
  have HV := Lib.hid hV
  obtain ⟨yb, ys, yn⟩ := y
  simp only at hk hya hy0 F
  subst hk
  unfold maxLen at hmm
  rw [six_len] at hmc
  clear hO hM hC hV hf
  go_enter Try.func22, Try.ntmps22
  go_wp2_with fail
  refine F.mono ?_
  rintro e w1 ⟨rfl, hb⟩
  have Y : QAt (w1.alloc zQ) w1.heap.size s0 := blk_new w1 zQ
  have Z := QAt.row Y ⟨yb, ys, (k : Int)⟩
  have hB2 := below_setRow (tr hb (trA (tr0 w1) zQ)) (sl ⟨yb, ys, (k : Int)⟩).toArray (g := w1.heap.size) hb.size
  clear F
  go_upto_region 2 with (refine storeQ rfl (.tmp 8) (.tmp 15) rfl rfl (t := ⟨yb, ys, (k : Int)⟩) rfl Y ?_)
  rw [zQ_eq]
  clear Y hb
  generalize ((w1.alloc zQ).setRow w1.heap.size (sl ⟨yb, ys, (k : Int)⟩).toArray) = W at *
  have z2 := Z.c2
  have cv := (HV.out.below hB2).cell (six_at V hk6)
  simp only at z2
  have CC := Lib.hid (HC.out W hB2)
  go_wp2_with fail
  refine CC.out.mono ?_
  rintro e w' ⟨rfl, rfl⟩
  go_wp2_with fail
  go_ret2
  exact ⟨rfl, hB2⟩
theorem qStoreErr (mv : Value) (E x : Int) (hE : fres a M = (s0, 0, E)) (hne : E ≠ 0) (a0 : 0 ≤ a) (a1 : a < 4294967296) (hO : OwnB w B lv M) (hM : ∀ y ∈ M, y.wf) (hl : M.length < 100000) :
    Calls Try.prog 24 #[lv, mv, .int .u32 a, .int .u32 x] w fun e w' => e = .returned (.tuple #[mv, .int .i64 E]) ∧ Below w.heap.size w w' := by
  have F := qFind a a0 a1 hO hM hl
  unfold QFind at F
  rw [hE] at F
  have q : (E != 0) = true := by simpa using hne
  clear hO hM hE
  go_enter Try.func24, Try.ntmps24
  go_wp2_with fail
  refine F.mono ?_
  rintro e w1 ⟨rfl, hb⟩
  have Y : QAt (w1.alloc zQ) w1.heap.size s0 := blk_new w1 zQ
  have hB2 := below_setRow (tr hb (trA (tr0 w1) zQ)) (sl s0).toArray (g := w1.heap.size) hb.size
  clear F
  go_wp2_with (refine storeQ rfl (.tmp 10) (.tmp 19) rfl rfl (t := s0) rfl Y ?_)
  go_ret2
  exact ⟨rfl, hB2⟩
set_option maxRecDepth 100000 in
set_option maxHeartbeats 3200000 in
theorem qStoreHit (y : Sg) (k : Nat) (V : Nat → Value) (x E : Int) {mg mc : Nat} (T : World → Value → Prop) (h1 : (a % 4 != 0) = false) (hf : findS a M = some y) (hk : y.n = (k : Int)) (hk6 : k < 6) (hya : y.b ≤ a) (hy0 : 0 ≤ y.b) (a0 : 0 ≤ a) (a1 : a < 4294967296) (hO : OwnB w B lv M) (hM : ∀ y ∈ M, y.wf) (hl : M.length < 100000)
    (hV : OwnV w C tS1 (.slice (some ⟨mg, 0, none⟩) (six V).length mc) (six V)) (hone : ∀ u ∈ six V, u.oneCell' = true) (hmc : (six V).length ≤ mc) (hmm : mc ≤ maxLen)
    (hC : ∀ w', Below w.heap.size w w' → Calls Try.prog 10 #[V k, .int .u32 (a - y.b), .int .u32 x] w' fun e w'' => ∃ v', e = .returned (.tuple #[v', .int .i64 E]) ∧ T w'' v' ∧ Below w'.heap.size w' w'')
    (hT : ∀ u u' v, T u v → Below u.heap.size u u' → T u' v) (hT2 : ∀ u v, T u v → ∃ y l c, v = .slice y l c) :
    Calls Try.prog 24 #[lv, .slice (some ⟨mg, 0, none⟩) 6 mc, .int .u32 a, .int .u32 x] w
      fun e w' => ∃ mv' v', e = .returned (.tuple #[mv', .int .i64 E]) ∧ OwnV w' w.heap.size tS1 mv' (six (updV V k v')) ∧ T w' v' ∧ Below w.heap.size w w' := by
  have F := qFind a a0 a1 hO hM hl
  unfold QFind at F
  rw [fres_hit h1 hf] at F
  have HC := Lib.hid hC
  have HV := Lib.hid hV
  have HT := Lib.hid hT
  have HT2 := Lib.hid hT2
  have HO := Lib.hid hone
  obtain ⟨yb, ys, yn⟩ := y
  simp only at hk hya hy0 F
  subst hk
  unfold maxLen at hmm
  rw [six_len] at hmc
  clear hO hM hC hV hf hT hT2 hone
  go_enter Try.func24, Try.ntmps24
  go_wp2_with fail
  refine F.mono ?_
  rintro e w1 ⟨rfl, hb⟩
  have Y : QAt (w1.alloc zQ) w1.heap.size s0 := blk_new w1 zQ
  have Z := QAt.row Y ⟨yb, ys, (k : Int)⟩
  have hB2 := below_setRow (tr hb (trA (tr0 w1) zQ)) (sl ⟨yb, ys, (k : Int)⟩).toArray (g := w1.heap.size) hb.size
  clear F
  have hqs : w.heap.size ≤ w1.heap.size := hb.size
  go_upto_region 2 with (refine storeQ rfl (.tmp 10) (.tmp 19) rfl rfl (t := ⟨yb, ys, (k : Int)⟩) rfl Y ?_)
  rw [zQ_eq]
  clear Y hb
  generalize ((w1.alloc zQ).setRow w1.heap.size (sl ⟨yb, ys, (k : Int)⟩).toArray) = W at *
  generalize w1.heap.size = q at *
  have z2 := Z.c2
  have V2 := HV.out.below hB2
  have cv := V2.cell (six_at V hk6)
  simp only at z2
  have CC := Lib.hid (HC.out W hB2)
  go_wp2_with fail
  refine CC.out.mono ?_
  rintro e w2 ⟨v', rfl, hTv, hb⟩
  have Z3 := Z.below hb
  have V3 := V2.below hb
  have B3 := tr hB2 hb
  clear Z V2 hB2 hb z2 cv CC HC HV
  have OO : OwnV (w2.alloc (.cells #[] 25 (0, 0))) w2.heap.size tS1 (.slice (some ⟨w2.heap.size, 0, none⟩) 0 0) [] := World.ownsRow_made (base := w2.heap.size) (e := 25) (size := 1) w2 #[] 0 (Nat.le_refl _) (by decide) rfl
  have hb2 := trA (tr0 w2) (.cells #[] 25 (0, 0))
  have V4 := V3.below hb2
  have Z4 := Z3.below hb2
  have h4 : w2.heap.size ≤ (w2.alloc (.cells #[] 25 (0, 0))).heap.size := hb2.size
  rw [six_len] at V4
  have V4' : OwnV (w2.alloc (.cells #[] 25 (0, 0))) C tS1 (.slice (some ⟨mg, 0, none⟩) (six V).length mc) (six V) := by rw [six_len]; exact V4
  have hqw : q < w2.heap.size := Z3.lt
  obtain ⟨vy, vl, vc, rfl⟩ := HT2.out _ _ hTv
  have HTV := Lib.hid hTv
  clear V3 Z3 V4 hTv
  go_upto_region 6 with (refine appendAllS rfl (.tmp 37) (.tmp 38) rfl (v := .slice (some ⟨w2.heap.size, 0, none⟩) 0 0) rfl OO (by rw [six_len]; rfl) V4' HO.out (by rw [six_len]; omega) h4 ?_; intro mv' W5 O5 ho5)
  have ho6 : Off (· = w2.heap.size) (w2.alloc (.cells #[] 25 (0, 0))) W5 := ho5.mono fun k _ e => (Option.some.inj e).symm
  have Z5 : QAt W5 q ⟨yb, ys, (k : Int)⟩ := ho6.at Z4 (by omega)
  have B5 := Off.toBelow hb2 ho6 (fun b hb e => by omega) (Nat.le_refl _)
  clear OO Z4 V4' ho5 ho6 hb2 h4
  rcases O5.cases with ⟨_, h0⟩ | ⟨g', cap', rfl, hg', hnc', hcm', hgl', _⟩
  · have := six_len V; rw [h0] at this; cases this
  · have O6 := O5.set (i := k) (by rw [six_len]; exact hk6) (.slice vy vl vc)
    rw [six_set] at O6
    have z2 := Z5.c2
    simp only at z2
    have ck := O5.cell (six_at V hk6)
    have fk := O5.free k
    have B6 := B5.setCell (p := ⟨g', k, none⟩) (by exact hg') (.slice vy vl vc)
    have B7 := tr B3 B6
    have O7 : OwnV (W5.setCell ⟨g', k, none⟩ (.slice vy vl vc)) w.heap.size tS1 (.slice (some ⟨g', 0, none⟩) (six (updV V k (.slice vy vl vc))).length cap') (six (updV V k (.slice vy vl vc))) := O6.base (fun b hb => by cases hb; show w.heap.size ≤ g'; have := B3.size; omega)
    have T7 := HT.out _ _ _ HTV.out B6
    rw [six_len] at O7 hnc' ⊢
    unfold maxLen at hcm'
    have HO7 := Lib.hid O7
    have HT7 := Lib.hid T7
    have HB7 := Lib.hid B7
    clear O5 O6 O7 T7 B5 B6 B7 B3 HTV
    go_wp2_with fail
    go_ret2
    exact ⟨_, _, rfl, HO7.out, HT7.out, HB7.out⟩
end
end Go.Proofs.Ytafegmmcgghgaaa.B
