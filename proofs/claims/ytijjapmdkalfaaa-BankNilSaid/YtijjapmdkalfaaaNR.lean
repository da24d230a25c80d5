/- The document's own answers of layer 6: a timer's eight cells, by value. -/
import Derived.Test.YtijjapmdkalfaaaNStore
namespace Go.Proofs.Ytijjapmdkalfaaa.B
set_option linter.unusedVariables false
set_option linter.unusedSimpArgs false
open Go.ChangeShapes Go.WideShapes Go.RowKit Go.Sort
theorem iM : (Try.prog.info? 48).map (·.size) = some 8 := by kernel_rfl
def r8 (ld v : Int) (en re iq : Bool) (sc ph : Int) (st : Bool) : List Value := [.int .u32 ld, .int .u32 v, .bool en, .bool re, .bool iq, .int .u32 sc, .int .u32 ph, .bool st]
def rl (t : Tm) : List Value := r8 t.ld t.v t.en t.re t.iq t.sc t.ph t.st
theorem r8_one (ld v : Int) (en re iq : Bool) (sc ph : Int) (st : Bool) : ∀ x ∈ r8 ld v en re iq sc ph st, x.oneCell' = true := by
  intro x h
  simp only [r8, List.mem_cons, List.not_mem_nil, or_false] at h
  rcases h with rfl | rfl | rfl | rfl | rfl | rfl | rfl | rfl <;> rfl
abbrev tM : TypeId := 48
def MAt (w : World) (b : Nat) (t : Tm) : Prop := w.heap[b]? = some (.cells (rl t).toArray tM (0, 0))
section
variable {w w' : World} {b : Nat} {t : Tm}
theorem MAt.lt (h : MAt w b t) : b < w.heap.size := lt_of_block h
theorem MAt.below (h : MAt w b t) (hb : Below w.heap.size w w') : MAt w' b t := blk_below hb h h.lt
theorem MAt.off {S : Nat → Prop} (h : MAt w b t) (ho : Off S w w') (hs : ¬ S b) : MAt w' b t := ho.at h hs
theorem MAt.free (h : MAt w b t) (j : Nat) : w.frozen? ⟨b, j, none⟩ = false := blk_free h j
theorem MAt.c0 (h : MAt w b t) : w.cell? ⟨b, 0, none⟩ = some (.int .u32 t.ld) := by rw [blk_cell h 0]; rfl
theorem MAt.c1 (h : MAt w b t) : w.cell? ⟨b, 1, none⟩ = some (.int .u32 t.v) := by rw [blk_cell h 1]; rfl
theorem MAt.c2 (h : MAt w b t) : w.cell? ⟨b, 2, none⟩ = some (.bool t.en) := by rw [blk_cell h 2]; rfl
theorem MAt.c3 (h : MAt w b t) : w.cell? ⟨b, 3, none⟩ = some (.bool t.re) := by rw [blk_cell h 3]; rfl
theorem MAt.c4 (h : MAt w b t) : w.cell? ⟨b, 4, none⟩ = some (.bool t.iq) := by rw [blk_cell h 4]; rfl
theorem MAt.c5 (h : MAt w b t) : w.cell? ⟨b, 5, none⟩ = some (.int .u32 t.sc) := by rw [blk_cell h 5]; rfl
theorem MAt.c6 (h : MAt w b t) : w.cell? ⟨b, 6, none⟩ = some (.int .u32 t.ph) := by rw [blk_cell h 6]; rfl
theorem MAt.c7 (h : MAt w b t) : w.cell? ⟨b, 7, none⟩ = some (.bool t.st) := by rw [blk_cell h 7]; rfl
theorem MAt.set (h : MAt w b t) (j : Nat) (x : Value) {s : Tm} (he : (rl t).set j x = rl s) : MAt (w.setCell ⟨b, j, none⟩ x) b s := by
  unfold MAt; rw [blk_set h, ← he]; simp
theorem MAt.s0 (h : MAt w b t) (x : Int) : MAt (w.setCell ⟨b, 0, none⟩ (.int .u32 x)) b { t with ld := x } := h.set _ _ rfl
theorem MAt.s1 (h : MAt w b t) (x : Int) : MAt (w.setCell ⟨b, 1, none⟩ (.int .u32 x)) b { t with v := x } := h.set _ _ rfl
theorem MAt.s2 (h : MAt w b t) (x : Bool) : MAt (w.setCell ⟨b, 2, none⟩ (.bool x)) b { t with en := x } := h.set _ _ rfl
theorem MAt.s3 (h : MAt w b t) (x : Bool) : MAt (w.setCell ⟨b, 3, none⟩ (.bool x)) b { t with re := x } := h.set _ _ rfl
theorem MAt.s4 (h : MAt w b t) (x : Bool) : MAt (w.setCell ⟨b, 4, none⟩ (.bool x)) b { t with iq := x } := h.set _ _ rfl
theorem MAt.s5 (h : MAt w b t) (x : Int) : MAt (w.setCell ⟨b, 5, none⟩ (.int .u32 x)) b { t with sc := x } := h.set _ _ rfl
theorem MAt.s6 (h : MAt w b t) (x : Int) : MAt (w.setCell ⟨b, 6, none⟩ (.int .u32 x)) b { t with ph := x } := h.set _ _ rfl
theorem MAt.s7 (h : MAt w b t) (x : Bool) : MAt (w.setCell ⟨b, 7, none⟩ (.bool x)) b { t with st := x } := h.set _ _ rfl
theorem MAt.other (h : MAt w b t) (k j : Nat) (x : Value) (hne : b ≠ k) : MAt (w.setCell ⟨k, j, none⟩ x) b t := blk_else h k j x hne
theorem MAt.row {old : Array Value} (h : w.heap[b]? = some (.cells old tM (0, 0))) (t : Tm) : MAt (w.setRow b (rl t).toArray) b t := row_set _ h
theorem MAt.elseRow (h : MAt w b t) (g : Nat) (cs : Array Value) (hne : b ≠ g) : MAt (w.setRow g cs) b t := row_else g cs h hne
theorem MAt.grown (h : MAt w b t) : ∀ w', (∃ p : Regrown, w' = grow (redrawn w p.d) p.os) → MAt w' b t := grown_block h
end
section
variable {ops : Array Oper} {rest : List Oper} {o : Oper} {a : Act} {w : World} {Q : Exit → Act → World → Prop}
theorem loadM (hgd : o.guard = none) (x : Operand) (ho : o.op = .load 48 x) {b : Nat} (hx : a.eval x = .pointer (some ⟨b, 0, none⟩)) {t : Tm} (hg : MAt w b t)
    (h : wpList Try.prog ops Q rest (a.put o.dst (.agg (rl t).toArray)) w) : wpList Try.prog ops Q (o :: rest) a w :=
  wpList_load_part hgd _ x ho b 0 hx _ (rl t) hg Try.underlying48 rfl iM (part_all _) h
theorem loadMg (x : Operand) (ho : o.op = .load 48 x) (hw : Region.wanted o (yielded ops a.tmps) = true) {b : Nat} (hx : a.eval x = .pointer (some ⟨b, 0, none⟩)) {t : Tm} (hg : MAt w b t)
    (h : wpList Try.prog ops Q rest (a.put o.dst (.agg (rl t).toArray)) w) : wpList Try.prog ops Q (o :: rest) a w :=
  wpList_load_part_g _ x ho hw b 0 hx _ (rl t) hg Try.underlying48 rfl iM (part_all _) h
theorem storeM (hgd : o.guard = none) (x y : Operand) (ho : o.op = .store 48 x y) {b : Nat} (hx : a.eval x = .pointer (some ⟨b, 0, none⟩)) {t : Tm} (hy : a.eval y = .agg (rl t).toArray) {t' : Tm} (hg : MAt w b t')
    (h : wpList Try.prog ops Q rest (a.put o.dst undef) (w.setRow b (rl t).toArray)) : wpList Try.prog ops Q (o :: rest) a w := by
  refine wpList_store_part hgd _ x y ho b 0 hx (rl t) hy hg iM (by simp [rl, r8]) (r8_one _ _ _ _ _ _ _ _) ?_
  rw [spliced_all _ _ (by simp [rl, r8])]
  exact h
theorem qloadM {C : World → Prop} {K : Act → Prop} (x : Operand) (ho : o.op = .load 48 x) {b : Nat} (hx : a.eval x = .pointer (some ⟨b, 0, none⟩)) {t : Tm} (hg : ∀ w, C w → MAt w b t)
    (h : K (a.put o.dst (.agg (rl t).toArray))) : o.quiet Try.prog a C K :=
  quiet_load_part _ x ho b 0 hx _ (rl t) (fun w hw => hg w hw) Try.underlying48 rfl iM (part_all _) h
end
theorem resM {fn : Func} {p : Tmp} (h : fn.results = #[.cell p 48]) (tmps : Array Value) (w : World) {b : Nat} {t : Tm} (hp : tmps[p]? = some (.pointer (some ⟨b, 0, none⟩))) (hg : MAt w b t) :
    (results fn tmps).run Try.prog w = .ok (.agg (rl t).toArray) w :=
  results_cell_one h tmps w b 0 _ (rl t) hp hg Try.underlying48 rfl iM (part_all _)
theorem resM2 {fn : Func} {p q : Tmp} (h : fn.results = #[.cell p 48, .tmp q]) (tmps : Array Value) (w : World) {b : Nat} {t : Tm} (y : Value) (hp : tmps[p]? = some (.pointer (some ⟨b, 0, none⟩))) (hq : tmps[q]? = some y) (hg : MAt w b t) :
    (results fn tmps).run Try.prog w = .ok (.tuple #[.agg (rl t).toArray, y]) w :=
  results_cell_slot h tmps w b 0 _ (rl t) y hp hq hg Try.underlying48 rfl iM (part_all _)
def zM : Obj := .cells (rl tz).toArray tM (0, 0)
theorem zM_eq : Obj.cells #[.int .u32 0, .int .u32 0, .bool false, .bool false, .bool false, .int .u32 0, .int .u32 0, .bool false] 48 (0, 0) = zM := rfl
def oM (t : Tm) : Obj := .cells (rl t).toArray tM (0, 0)
theorem rWordM (b : Bool) (k : Int) (w : World) : Calls Try.prog 51 #[.bool b, .int .u32 k] w fun e w' => e = .returned (.int .u32 (if b = true then k else 0)) ∧ w = w' := by
  cases b
  all_goals
    go_enter Try.func51, Try.ntmps51
    go_wp2_with fail
    go_ret
    exact ⟨rfl, rfl⟩
theorem mLeft (t : Tm) (w : World) (h : t.ok) : Calls Try.prog 40 #[.agg (rl t).toArray] w fun e w' => e = .returned (.int .u64 t.lef) ∧ Below w.heap.size w w' := by
  have hB := trA (tr0 w) (oM t)
  have X : MAt (w.alloc (oM t)) w.heap.size t := blk_new w (oM t)
  have hL := h.left
  obtain ⟨l0, l1, v0, v1, s0, s1, p0, p1⟩ := h
  unfold Tm.left lft at hL
  have he : Hid (t.en = true → max t.v 1 * (t.sc + 1) - t.ph = t.lef) := Lib.hid (fun he => by unfold Tm.lef Tm.left lft; rw [if_pos he])
  have x1 := X.c1
  have x2 := X.c2
  have x5 := X.c5
  have x6 := X.c6
  cases hen : t.en
  · rw [hen] at x2
    go_enter Try.func40, Try.ntmps40
    go_upto_region 1 with (fail)
    rw [show Obj.cells (rl t).toArray 48 (0, 0) = oM t from rfl]
    generalize (w.alloc (oM t)) = W at *
    go_wp2_with fail
    go_ret
    exact ⟨ret_int (by unfold Tm.lef; rw [hen]; rfl), hB⟩
  · rw [hen] at x2
    have hm : (max t.v 1 - 1) * (t.sc + 1) = max t.v 1 * (t.sc + 1) - (t.sc + 1) := by rw [Int.sub_mul]; omega
    have hp := mul_bounds (a := max t.v 1) (b := max t.v 1) (u := t.sc + 1) (by omega) (by omega) (by omega)
    have hq : 0 ≤ (max t.v 1 - 1) * (t.sc + 1) ∧ (max t.v 1 - 1) * (t.sc + 1) < 1099511627776 := by omega
    have hr : (max t.v 1 - 1) * (t.sc + 1) + t.sc + 1 - t.ph = max t.v 1 * (t.sc + 1) - t.ph := by omega
    have HE := Lib.hid (hr.trans (he.out hen))
    by_cases hv : t.v = 0
    · rw [show max t.v 1 = 1 by omega] at HE
      rw [hv] at x1
      clear hm hp hq hr he hL
      simp only [Int.sub_self, Int.zero_mul, Int.zero_add] at HE
      go_enter Try.func40, Try.ntmps40
      go_upto_region 1 with (fail)
      rw [show Obj.cells (rl t).toArray 48 (0, 0) = oM t from rfl]
      generalize (w.alloc (oM t)) = W at *
      go_wp2_with fail
      go_ret
      exact ⟨ret_int (by have := HE.out; omega), hB⟩
    · rw [show max t.v 1 = t.v by omega] at HE hq
      have hv2 : (t.v == 0) = false := by simpa using hv
      clear hm hp hr he hL
      go_enter Try.func40, Try.ntmps40
      go_upto_region 1 with (fail)
      rw [show Obj.cells (rl t).toArray 48 (0, 0) = oM t from rfl]
      generalize (w.alloc (oM t)) = W at *
      go_wp2_with fail
      go_ret
      exact ⟨ret_int (by have := HE.out; omega), hB⟩
end Go.Proofs.Ytijjapmdkalfaaa.B
