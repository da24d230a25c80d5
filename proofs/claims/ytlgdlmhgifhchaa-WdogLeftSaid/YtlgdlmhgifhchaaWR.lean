/- The document's own answers of layer 8: a watchdog's seven cells, by value. -/
import Derived.Test.YtlgdlmhgifhchaaWPlain
import Derived.Test.YtlgdlmhgifhchaaArr
import Derived.Test.YtlgdlmhgifhchaaMap
import Derived.Test.YtlgdlmhgifhchaaBMask
namespace Go.Proofs.Ytlgdlmhgifhchaa.B
set_option linter.unusedVariables false
set_option linter.unusedSimpArgs false
open Go.ChangeShapes Go.WideShapes Go.RowKit Go.Sort
theorem iV : (Try.prog.info? 28).map (·.size) = some 7 := by kernel_rfl
def r7 (en lk ar : Bool) (cl tot si fa : Int) : List Value := [.bool en, .bool lk, .bool ar, .int .u32 cl, .int .u32 tot, .int .u64 si, .int .i64 fa]
def vl (t : Wd) : List Value := r7 t.en t.lk t.ar t.cl t.tot t.si t.fa
theorem r7_one (en lk ar : Bool) (cl tot si fa : Int) : ∀ x ∈ r7 en lk ar cl tot si fa, x.oneCell' = true := by
  intro x h
  simp only [r7, List.mem_cons, List.not_mem_nil, or_false] at h
  rcases h with rfl | rfl | rfl | rfl | rfl | rfl | rfl <;> rfl
abbrev tV : TypeId := 28
def VAt (w : World) (b : Nat) (t : Wd) : Prop := w.heap[b]? = some (.cells (vl t).toArray tV (0, 0))
section
variable {w w' : World} {b : Nat} {t : Wd}
theorem VAt.lt (h : VAt w b t) : b < w.heap.size := lt_of_block h
theorem VAt.below (h : VAt w b t) (hb : Below w.heap.size w w') : VAt w' b t := blk_below hb h h.lt
theorem VAt.off {S : Nat → Prop} (h : VAt w b t) (ho : Off S w w') (hs : ¬ S b) : VAt w' b t := ho.at h hs
theorem VAt.free (h : VAt w b t) (j : Nat) : w.frozen? ⟨b, j, none⟩ = false := blk_free h j
theorem VAt.c0 (h : VAt w b t) : w.cell? ⟨b, 0, none⟩ = some (.bool t.en) := by rw [blk_cell h 0]; rfl
theorem VAt.c1 (h : VAt w b t) : w.cell? ⟨b, 1, none⟩ = some (.bool t.lk) := by rw [blk_cell h 1]; rfl
theorem VAt.c2 (h : VAt w b t) : w.cell? ⟨b, 2, none⟩ = some (.bool t.ar) := by rw [blk_cell h 2]; rfl
theorem VAt.c3 (h : VAt w b t) : w.cell? ⟨b, 3, none⟩ = some (.int .u32 t.cl) := by rw [blk_cell h 3]; rfl
theorem VAt.c4 (h : VAt w b t) : w.cell? ⟨b, 4, none⟩ = some (.int .u32 t.tot) := by rw [blk_cell h 4]; rfl
theorem VAt.c5 (h : VAt w b t) : w.cell? ⟨b, 5, none⟩ = some (.int .u64 t.si) := by rw [blk_cell h 5]; rfl
theorem VAt.c6 (h : VAt w b t) : w.cell? ⟨b, 6, none⟩ = some (.int .i64 t.fa) := by rw [blk_cell h 6]; rfl
theorem VAt.set (h : VAt w b t) (j : Nat) (x : Value) {s : Wd} (he : (vl t).set j x = vl s) : VAt (w.setCell ⟨b, j, none⟩ x) b s := by
  unfold VAt; rw [blk_set h, ← he]; simp
theorem VAt.s0 (h : VAt w b t) (x : Bool) : VAt (w.setCell ⟨b, 0, none⟩ (.bool x)) b { t with en := x } := h.set _ _ rfl
theorem VAt.s1 (h : VAt w b t) (x : Bool) : VAt (w.setCell ⟨b, 1, none⟩ (.bool x)) b { t with lk := x } := h.set _ _ rfl
theorem VAt.s2 (h : VAt w b t) (x : Bool) : VAt (w.setCell ⟨b, 2, none⟩ (.bool x)) b { t with ar := x } := h.set _ _ rfl
theorem VAt.s3 (h : VAt w b t) (x : Int) : VAt (w.setCell ⟨b, 3, none⟩ (.int .u32 x)) b { t with cl := x } := h.set _ _ rfl
theorem VAt.s4 (h : VAt w b t) (x : Int) : VAt (w.setCell ⟨b, 4, none⟩ (.int .u32 x)) b { t with tot := x } := h.set _ _ rfl
theorem VAt.s5 (h : VAt w b t) (x : Int) : VAt (w.setCell ⟨b, 5, none⟩ (.int .u64 x)) b { t with si := x } := h.set _ _ rfl
theorem VAt.s6 (h : VAt w b t) (x : Int) : VAt (w.setCell ⟨b, 6, none⟩ (.int .i64 x)) b { t with fa := x } := h.set _ _ rfl
theorem VAt.other (h : VAt w b t) (k j : Nat) (x : Value) (hne : b ≠ k) : VAt (w.setCell ⟨k, j, none⟩ x) b t := blk_else h k j x hne
theorem VAt.row {old : Array Value} (h : w.heap[b]? = some (.cells old tV (0, 0))) (t : Wd) : VAt (w.setRow b (vl t).toArray) b t := row_set _ h
theorem VAt.elseRow (h : VAt w b t) (g : Nat) (cs : Array Value) (hne : b ≠ g) : VAt (w.setRow g cs) b t := row_else g cs h hne
theorem VAt.grown (h : VAt w b t) : ∀ w', (∃ p : Regrown, w' = grow (redrawn w p.d) p.os) → VAt w' b t := grown_block h
end
section
variable {ops : Array Oper} {rest : List Oper} {o : Oper} {a : Act} {w : World} {Q : Exit → Act → World → Prop}
theorem loadV (hgd : o.guard = none) (x : Operand) (ho : o.op = .load 28 x) {b : Nat} (hx : a.eval x = .pointer (some ⟨b, 0, none⟩)) {t : Wd} (hg : VAt w b t)
    (h : wpList Try.prog ops Q rest (a.put o.dst (.agg (vl t).toArray)) w) : wpList Try.prog ops Q (o :: rest) a w :=
  wpList_load_part hgd _ x ho b 0 hx _ (vl t) hg Try.underlying28 rfl iV (part_all _) h
theorem loadVg (x : Operand) (ho : o.op = .load 28 x) (hw : Region.wanted o (yielded ops a.tmps) = true) {b : Nat} (hx : a.eval x = .pointer (some ⟨b, 0, none⟩)) {t : Wd} (hg : VAt w b t)
    (h : wpList Try.prog ops Q rest (a.put o.dst (.agg (vl t).toArray)) w) : wpList Try.prog ops Q (o :: rest) a w :=
  wpList_load_part_g _ x ho hw b 0 hx _ (vl t) hg Try.underlying28 rfl iV (part_all _) h
theorem storeV (hgd : o.guard = none) (x y : Operand) (ho : o.op = .store 28 x y) {b : Nat} (hx : a.eval x = .pointer (some ⟨b, 0, none⟩)) {t : Wd} (hy : a.eval y = .agg (vl t).toArray) {t' : Wd} (hg : VAt w b t')
    (h : wpList Try.prog ops Q rest (a.put o.dst undef) (w.setRow b (vl t).toArray)) : wpList Try.prog ops Q (o :: rest) a w := by
  refine wpList_store_part hgd _ x y ho b 0 hx (vl t) hy hg iV (by simp [vl, r7]) (r7_one _ _ _ _ _ _ _) ?_
  rw [spliced_all _ _ (by simp [vl, r7])]
  exact h
theorem qloadV {C : World → Prop} {K : Act → Prop} (x : Operand) (ho : o.op = .load 28 x) {b : Nat} (hx : a.eval x = .pointer (some ⟨b, 0, none⟩)) {t : Wd} (hg : ∀ w, C w → VAt w b t)
    (h : K (a.put o.dst (.agg (vl t).toArray))) : o.quiet Try.prog a C K :=
  quiet_load_part _ x ho b 0 hx _ (vl t) (fun w hw => hg w hw) Try.underlying28 rfl iV (part_all _) h
end
theorem resV {fn : Func} {p : Tmp} (h : fn.results = #[.cell p 28]) (tmps : Array Value) (w : World) {b : Nat} {t : Wd} (hp : tmps[p]? = some (.pointer (some ⟨b, 0, none⟩))) (hg : VAt w b t) :
    (results fn tmps).run Try.prog w = .ok (.agg (vl t).toArray) w :=
  results_cell_one h tmps w b 0 _ (vl t) hp hg Try.underlying28 rfl iV (part_all _)
theorem resV2 {fn : Func} {p q : Tmp} (h : fn.results = #[.cell p 28, .tmp q]) (tmps : Array Value) (w : World) {b : Nat} {t : Wd} (y : Value) (hp : tmps[p]? = some (.pointer (some ⟨b, 0, none⟩))) (hq : tmps[q]? = some y) (hg : VAt w b t) :
    (results fn tmps).run Try.prog w = .ok (.tuple #[.agg (vl t).toArray, y]) w :=
  results_cell_slot h tmps w b 0 _ (vl t) y hp hq hg Try.underlying28 rfl iV (part_all _)
def zV : Obj := .cells (vl wz).toArray tV (0, 0)
theorem zV_eq : Obj.cells #[.bool false, .bool false, .bool false, .int .u32 0, .int .u32 0, .int .u64 0, .int .i64 0] 28 (0, 0) = zV := rfl
def oV (t : Wd) : Obj := .cells (vl t).toArray tV (0, 0)
theorem oV_eq (t : Wd) : Obj.cells (vl t).toArray 28 (0, 0) = oV t := rfl
end Go.Proofs.Ytlgdlmhgifhchaa.B
