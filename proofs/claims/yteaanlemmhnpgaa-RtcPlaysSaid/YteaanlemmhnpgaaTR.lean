/- The document's own answers of layer 10: a clock's eight cells, by value. -/
import Derived.Test.YteaanlemmhnpgaaTPlain
import Derived.Test.YteaanlemmhnpgaaArr
import Derived.Test.YteaanlemmhnpgaaMap
import Derived.Test.YteaanlemmhnpgaaBMask
namespace Go.Proofs.Yteaanlemmhnpgaa.B
set_option linter.unusedVariables false
set_option linter.unusedSimpArgs false
open Go.ChangeShapes Go.WideShapes Go.RowKit Go.Sort
theorem iK : (Try.prog.info? 31).map (·.size) = some 8 := by kernel_rfl
def k8 (d r s : Int) (sec : Int) (al ah : Int) (en st : Bool) : List Value := [.int .u32 d, .int .u32 r, .int .u32 s, .int .u64 sec, .int .u32 al, .int .u32 ah, .bool en, .bool st]
def kl (t : Rk) : List Value := k8 t.div t.rest t.set t.sec t.al t.ah t.en t.st
theorem k8_one (d r s : Int) (sec : Int) (al ah : Int) (en st : Bool) : ∀ x ∈ k8 d r s sec al ah en st, x.oneCell' = true := by
  intro x h
  simp only [k8, List.mem_cons, List.not_mem_nil, or_false] at h
  rcases h with rfl | rfl | rfl | rfl | rfl | rfl | rfl | rfl <;> rfl
abbrev tK : TypeId := 31
def KAt (w : World) (b : Nat) (t : Rk) : Prop := w.heap[b]? = some (.cells (kl t).toArray tK (0, 0))
section
variable {w w' : World} {b : Nat} {t : Rk}
theorem KAt.lt (h : KAt w b t) : b < w.heap.size := lt_of_block h
theorem KAt.below (h : KAt w b t) (hb : Below w.heap.size w w') : KAt w' b t := blk_below hb h h.lt
theorem KAt.off {S : Nat → Prop} (h : KAt w b t) (ho : Off S w w') (hs : ¬ S b) : KAt w' b t := ho.at h hs
theorem KAt.free (h : KAt w b t) (j : Nat) : w.frozen? ⟨b, j, none⟩ = false := blk_free h j
theorem KAt.c0 (h : KAt w b t) : w.cell? ⟨b, 0, none⟩ = some (.int .u32 t.div) := by rw [blk_cell h 0]; rfl
theorem KAt.c1 (h : KAt w b t) : w.cell? ⟨b, 1, none⟩ = some (.int .u32 t.rest) := by rw [blk_cell h 1]; rfl
theorem KAt.c2 (h : KAt w b t) : w.cell? ⟨b, 2, none⟩ = some (.int .u32 t.set) := by rw [blk_cell h 2]; rfl
theorem KAt.c3 (h : KAt w b t) : w.cell? ⟨b, 3, none⟩ = some (.int .u64 t.sec) := by rw [blk_cell h 3]; rfl
theorem KAt.c4 (h : KAt w b t) : w.cell? ⟨b, 4, none⟩ = some (.int .u32 t.al) := by rw [blk_cell h 4]; rfl
theorem KAt.c5 (h : KAt w b t) : w.cell? ⟨b, 5, none⟩ = some (.int .u32 t.ah) := by rw [blk_cell h 5]; rfl
theorem KAt.c6 (h : KAt w b t) : w.cell? ⟨b, 6, none⟩ = some (.bool t.en) := by rw [blk_cell h 6]; rfl
theorem KAt.c7 (h : KAt w b t) : w.cell? ⟨b, 7, none⟩ = some (.bool t.st) := by rw [blk_cell h 7]; rfl
theorem KAt.put (h : KAt w b t) (j : Nat) (x : Value) {s : Rk} (he : (kl t).set j x = kl s) : KAt (w.setCell ⟨b, j, none⟩ x) b s := by
  unfold KAt; rw [blk_set h, ← he]; simp
theorem KAt.s0 (h : KAt w b t) (x : Int) : KAt (w.setCell ⟨b, 0, none⟩ (.int .u32 x)) b { t with div := x } := h.put _ _ rfl
theorem KAt.s1 (h : KAt w b t) (x : Int) : KAt (w.setCell ⟨b, 1, none⟩ (.int .u32 x)) b { t with rest := x } := h.put _ _ rfl
theorem KAt.s2 (h : KAt w b t) (x : Int) : KAt (w.setCell ⟨b, 2, none⟩ (.int .u32 x)) b { t with set := x } := h.put _ _ rfl
theorem KAt.s3 (h : KAt w b t) (x : Int) : KAt (w.setCell ⟨b, 3, none⟩ (.int .u64 x)) b { t with sec := x } := h.put _ _ rfl
theorem KAt.s4 (h : KAt w b t) (x : Int) : KAt (w.setCell ⟨b, 4, none⟩ (.int .u32 x)) b { t with al := x } := h.put _ _ rfl
theorem KAt.s5 (h : KAt w b t) (x : Int) : KAt (w.setCell ⟨b, 5, none⟩ (.int .u32 x)) b { t with ah := x } := h.put _ _ rfl
theorem KAt.s6 (h : KAt w b t) (x : Bool) : KAt (w.setCell ⟨b, 6, none⟩ (.bool x)) b { t with en := x } := h.put _ _ rfl
theorem KAt.s7 (h : KAt w b t) (x : Bool) : KAt (w.setCell ⟨b, 7, none⟩ (.bool x)) b { t with st := x } := h.put _ _ rfl
theorem KAt.other (h : KAt w b t) (k j : Nat) (x : Value) (hne : b ≠ k) : KAt (w.setCell ⟨k, j, none⟩ x) b t := blk_else h k j x hne
theorem KAt.row {old : Array Value} (h : w.heap[b]? = some (.cells old tK (0, 0))) (t : Rk) : KAt (w.setRow b (kl t).toArray) b t := row_set _ h
theorem KAt.elseRow (h : KAt w b t) (g : Nat) (cs : Array Value) (hne : b ≠ g) : KAt (w.setRow g cs) b t := row_else g cs h hne
theorem KAt.grown (h : KAt w b t) : ∀ w', (∃ p : Regrown, w' = grow (redrawn w p.d) p.os) → KAt w' b t := grown_block h
end
section
variable {ops : Array Oper} {rest : List Oper} {o : Oper} {a : Act} {w : World} {Q : Exit → Act → World → Prop}
theorem loadK (hgd : o.guard = none) (x : Operand) (ho : o.op = .load 31 x) {b : Nat} (hx : a.eval x = .pointer (some ⟨b, 0, none⟩)) {t : Rk} (hg : KAt w b t)
    (h : wpList Try.prog ops Q rest (a.put o.dst (.agg (kl t).toArray)) w) : wpList Try.prog ops Q (o :: rest) a w :=
  wpList_load_part hgd _ x ho b 0 hx _ (kl t) hg Try.underlying31 rfl iK (part_all _) h
theorem loadKg (x : Operand) (ho : o.op = .load 31 x) (hw : Region.wanted o (yielded ops a.tmps) = true) {b : Nat} (hx : a.eval x = .pointer (some ⟨b, 0, none⟩)) {t : Rk} (hg : KAt w b t)
    (h : wpList Try.prog ops Q rest (a.put o.dst (.agg (kl t).toArray)) w) : wpList Try.prog ops Q (o :: rest) a w :=
  wpList_load_part_g _ x ho hw b 0 hx _ (kl t) hg Try.underlying31 rfl iK (part_all _) h
theorem storeK (hgd : o.guard = none) (x y : Operand) (ho : o.op = .store 31 x y) {b : Nat} (hx : a.eval x = .pointer (some ⟨b, 0, none⟩)) {t : Rk} (hy : a.eval y = .agg (kl t).toArray) {t' : Rk} (hg : KAt w b t')
    (h : wpList Try.prog ops Q rest (a.put o.dst undef) (w.setRow b (kl t).toArray)) : wpList Try.prog ops Q (o :: rest) a w := by
  refine wpList_store_part hgd _ x y ho b 0 hx (kl t) hy hg iK (by simp [kl, k8]) (k8_one _ _ _ _ _ _ _ _) ?_
  rw [spliced_all _ _ (by simp [kl, k8])]
  exact h
theorem qloadK {C : World → Prop} {K : Act → Prop} (x : Operand) (ho : o.op = .load 31 x) {b : Nat} (hx : a.eval x = .pointer (some ⟨b, 0, none⟩)) {t : Rk} (hg : ∀ w, C w → KAt w b t)
    (h : K (a.put o.dst (.agg (kl t).toArray))) : o.quiet Try.prog a C K :=
  quiet_load_part _ x ho b 0 hx _ (kl t) (fun w hw => hg w hw) Try.underlying31 rfl iK (part_all _) h
end
theorem resK {fn : Func} {p : Tmp} (h : fn.results = #[.cell p 31]) (tmps : Array Value) (w : World) {b : Nat} {t : Rk} (hp : tmps[p]? = some (.pointer (some ⟨b, 0, none⟩))) (hg : KAt w b t) :
    (results fn tmps).run Try.prog w = .ok (.agg (kl t).toArray) w :=
  results_cell_one h tmps w b 0 _ (kl t) hp hg Try.underlying31 rfl iK (part_all _)
theorem resK2 {fn : Func} {p q : Tmp} (h : fn.results = #[.cell p 31, .tmp q]) (tmps : Array Value) (w : World) {b : Nat} {t : Rk} (y : Value) (hp : tmps[p]? = some (.pointer (some ⟨b, 0, none⟩))) (hq : tmps[q]? = some y) (hg : KAt w b t) :
    (results fn tmps).run Try.prog w = .ok (.tuple #[.agg (kl t).toArray, y]) w :=
  results_cell_slot h tmps w b 0 _ (kl t) y hp hq hg Try.underlying31 rfl iK (part_all _)
def rkz : Rk := ⟨0, 0, 0, 0, 0, 0, false, false⟩
def zK : Obj := .cells (kl rkz).toArray tK (0, 0)
theorem zK_eq : Obj.cells #[.int .u32 0, .int .u32 0, .int .u32 0, .int .u64 0, .int .u32 0, .int .u32 0, .bool false, .bool false] 31 (0, 0) = zK := rfl
def oK (t : Rk) : Obj := .cells (kl t).toArray tK (0, 0)
theorem oK_eq (t : Rk) : Obj.cells (kl t).toArray 31 (0, 0) = oK t := rfl
end Go.Proofs.Yteaanlemmhnpgaa.B
