/- What each method of a Count returns: New, Runs, Line, Left, check, Load, Reset, Copy. -/
import Derived.Test.YtijjapmdkalfaaaNOrd
import Derived.Test.YtijjapmdkalfaaaNEq
namespace Go.Proofs.Ytijjapmdkalfaaa.B
set_option linter.unusedVariables false
set_option linter.unusedSimpArgs false
open Go.ChangeShapes Go.WideShapes Go.RowKit Go.Sort
/-- Block b holds a timer's words. -/
def TAt (w : World) (b : Nat) (T : TypeId) (t : Tm) : Prop := w.heap[b]? = some (.cells (wl t).toArray T (0, 0))
abbrev tC : TypeId := 79
theorem wl_one (t : Tm) : ∀ x ∈ wl t, x.oneCell' = true := w5_one _ _ _ _ _
section
variable {w w' : World} {b : Nat} {T : TypeId} {t : Tm}
theorem TAt.a5 (h : TAt w b T t) : A5 w b T t.ld t.v (ctl t.en t.re t.iq t.sc) (tk t.st) t.ph := h
theorem TAt.lt (h : TAt w b T t) : b < w.heap.size := lt_of_block h
theorem TAt.below (h : TAt w b T t) (hb : Below w.heap.size w w') : TAt w' b T t := blk_below hb h h.lt
theorem TAt.off {S : Nat → Prop} (h : TAt w b T t) (ho : Off S w w') (hs : ¬ S b) : TAt w' b T t := ho.at h hs
theorem TAt.other (h : TAt w b T t) (k j : Nat) (x : Value) (hne : b ≠ k) : TAt (w.setCell ⟨k, j, none⟩ x) b T t := blk_else h k j x hne
theorem TAt.row {old : Array Value} (h : w.heap[b]? = some (.cells old T (0, 0))) (t : Tm) : TAt (w.setRow b (wl t).toArray) b T t := row_set _ h
theorem TAt.elseRow (h : TAt w b T t) (g : Nat) (cs : Array Value) (hne : b ≠ g) : TAt (w.setRow g cs) b T t := row_else g cs h hne
end
theorem off_row (w : World) (p : Nat) (cs : Array Value) : Off (· = p) w (w.setRow p cs) := ⟨rfl, rfl, rfl, by simp, fun k _ hs => setRow_other w p k cs hs⟩
section
variable {ops : Array Oper} {rest : List Oper} {o : Oper} {a : Act} {w : World} {Q : Exit → Act → World → Prop}
theorem loadT (hgd : o.guard = none) (x : Operand) (ho : o.op = .load 77 x) {b : Nat} {T : TypeId} (hx : a.eval x = .pointer (some ⟨b, 0, none⟩)) {t : Tm} (hg : TAt w b T t)
    (h : wpList Try.prog ops Q rest (a.put o.dst (.agg (wl t).toArray)) w) : wpList Try.prog ops Q (o :: rest) a w := loadW hgd x ho hx hg.a5 h
theorem loadTg (x : Operand) (ho : o.op = .load 77 x) (hw : Region.wanted o (yielded ops a.tmps) = true) {b : Nat} {T : TypeId} (hx : a.eval x = .pointer (some ⟨b, 0, none⟩)) {t : Tm} (hg : TAt w b T t)
    (h : wpList Try.prog ops Q rest (a.put o.dst (.agg (wl t).toArray)) w) : wpList Try.prog ops Q (o :: rest) a w := loadWg x ho hw hx hg.a5 h
theorem storeT (hgd : o.guard = none) (x y : Operand) (ho : o.op = .store 77 x y) {b : Nat} {T : TypeId} (hx : a.eval x = .pointer (some ⟨b, 0, none⟩)) {t : Tm} (hy : a.eval y = .agg (wl t).toArray) {t' : Tm}
    (hg : TAt w b T t') (h : wpList Try.prog ops Q rest (a.put o.dst undef) (w.setRow b (wl t).toArray)) : wpList Try.prog ops Q (o :: rest) a w := storeW hgd x y ho hx hy hg.a5 h
theorem qloadT {C : World → Prop} {K : Act → Prop} (x : Operand) (ho : o.op = .load 77 x) {b : Nat} {T : TypeId} (hx : a.eval x = .pointer (some ⟨b, 0, none⟩)) {t : Tm} (hg : ∀ w, C w → TAt w b T t)
    (h : K (a.put o.dst (.agg (wl t).toArray))) : o.quiet Try.prog a C K := qloadW x ho hx (fun w hw => (hg w hw).a5) h
end
theorem TAt.grown {w : World} {b : Nat} {T : TypeId} {t : Tm} (h : TAt w b T t) : ∀ w', (∃ p : Regrown, w' = grow (redrawn w p.d) p.os) → TAt w' b T t := grown_block h
/-- One that doesn't run. -/
def tz : Tm := ⟨0, 0, false, false, false, 0, 0, false⟩
theorem tz_ok : tz.ok := ⟨by decide, by decide, by decide, by decide, by decide, by decide, by decide, by decide⟩
theorem nNew (w : World) : Calls Try.prog 24 #[] w fun e w' => e = .returned (.pointer (some ⟨w.heap.size, 0, none⟩)) ∧ w' = w.alloc (.cells (wl tz).toArray tC (0, 0)) := by
  go_enter Try.func24, Try.ntmps24
  go_wp2_with fail
  go_ret
  exact ⟨rfl, rfl⟩
theorem nRuns (t : Tm) (p : Nat) (w : World) (h : t.ok) (a : TAt w p tC t) :
    Calls Try.prog 35 #[.pointer (some ⟨p, 0, none⟩)] w fun e w' => e = .returned (.bool t.en) ∧ Below w.heap.size w w' := by
  go_enter Try.func35, Try.ntmps35
  go_wp2_with (refine loadTg (.tmp 8) rfl rfl rfl a ?_)
  refine (nFlag0 t w h).mono ?_
  rintro e w1 ⟨rfl, hb⟩
  cases he : t.en
  all_goals
    go_wp2_with fail
    go_ret
    exact ⟨ret_bool he.symm, hb⟩
theorem nRunsNil (w : World) : Calls Try.prog 35 #[.pointer none] w fun e w' => e = .returned (.bool false) ∧ w = w' := by
  go_enter Try.func35, Try.ntmps35
  go_wp2_with fail
  go_ret
  exact ⟨rfl, rfl⟩
theorem nLine (t : Tm) (p : Nat) (w : World) (h : t.ok) (a : TAt w p tC t) :
    Calls Try.prog 39 #[.pointer (some ⟨p, 0, none⟩)] w fun e w' => e = .returned (.bool (t.st && t.iq)) ∧ Below w.heap.size w w' := by
  have x3 := a.a5.c3
  cases hs : t.st
  · rw [hs] at x3
    simp only [tk, cond_false] at x3
    go_enter Try.func39, Try.ntmps39
    go_wp2_with fail
    go_ret
    exact ⟨rfl, tr0 w⟩
  · rw [hs] at x3
    simp only [tk, cond_true] at x3
    go_enter Try.func39, Try.ntmps39
    go_wp2_with (refine loadTg (.tmp 17) rfl rfl rfl a ?_)
    refine (nFlag2 t w h).mono ?_
    rintro e w1 ⟨rfl, hb⟩
    cases he : t.iq
    all_goals
      go_wp2_with fail
      go_ret
      exact ⟨ret_bool (by rw [he]; rfl), hb⟩
theorem nLineNil (w : World) : Calls Try.prog 39 #[.pointer none] w fun e w' => e = .returned (.bool false) ∧ w = w' := by
  go_enter Try.func39, Try.ntmps39
  go_wp2_with fail
  go_ret
  exact ⟨rfl, rfl⟩
/-- What Left tells. -/
def Tm.lef (t : Tm) : Int := if t.en = true then t.left else 18446744073709551615
theorem nLeftC (t : Tm) (p : Nat) (w : World) (h : t.ok) (a : TAt w p tC t) :
    Calls Try.prog 33 #[.pointer (some ⟨p, 0, none⟩)] w fun e w' => e = .returned (.int .u64 t.lef) ∧ Below w.heap.size w w' := by
  have hr := nRuns t p w h a
  unfold Tm.lef
  cases he : t.en
  · rw [he] at hr
    go_enter Try.func33, Try.ntmps33
    go_wp2_with fail
    refine hr.mono ?_
    rintro e w1 ⟨rfl, hb⟩
    go_wp2_with fail
    go_ret
    exact ⟨rfl, hb⟩
  · rw [he] at hr
    go_enter Try.func33, Try.ntmps33
    go_wp2_with fail
    refine hr.mono ?_
    rintro e w1 ⟨rfl, hb⟩
    have a1 := a.below hb
    go_wp2_with (refine loadT rfl (.tmp 8) rfl rfl a1 ?_)
    refine (nLft t w1 h).mono ?_
    rintro e w2 ⟨rfl, hb2⟩
    go_wp2_with fail
    go_ret
    exact ⟨rfl, tr hb hb2⟩
theorem nLeftNil (w : World) : Calls Try.prog 33 #[.pointer none] w fun e w' => e = .returned (.int .u64 18446744073709551615) ∧ w = w' := by
  go_enter Try.func33, Try.ntmps33
  go_wp2_with fail
  refine (nRunsNil w).mono ?_
  rintro e w1 ⟨rfl, rfl⟩
  go_wp2_with fail
  go_ret
  exact ⟨rfl, rfl⟩
/-- The error of an offset. -/
def nErr (o : Int) : Int := if (o % 4 != 0) = true then 11 else if 16 ≤ o then 10 else 0
theorem nErr_cases (o : Int) : nErr o = 0 ∨ nErr o = 10 ∨ nErr o = 11 := by
  unfold nErr; split
  · exact .inr (.inr rfl)
  · split
    · exact .inr (.inl rfl)
    · exact .inl rfl
theorem nErr_zero {o : Int} (o0 : 0 ≤ o) (h : nErr o = 0) : o = 0 ∨ o = 4 ∨ o = 8 ∨ o = 12 := by
  unfold nErr at h
  cases h4 : (o % 4 != 0)
  · rw [h4] at h; simp at h h4; omega
  · rw [h4] at h; simp at h
theorem nCheck (x : Option Addr) (o : Int) (w : World) (o0 : 0 ≤ o) (o1 : o < 4294967296) (e : Int) (he : (if x = none then 10 else nErr o) = e) :
    Calls Try.prog 45 #[.pointer x, .int .u32 o] w fun e' w' => e' = .returned (.int .i64 e) ∧ w = w' := by
  cases x with
  | none =>
    rw [if_pos rfl] at he; subst he
    go_enter Try.func45, Try.ntmps45
    go_wp2_with fail
    go_ret
    exact ⟨rfl, rfl⟩
  | some x =>
    rw [if_neg (by simp)] at he
    unfold nErr at he
    cases h4 : (o % 4 != 0)
    · rw [h4, if_neg (by simp)] at he
      by_cases h8 : 16 ≤ o
      all_goals
        first
        | (rw [if_pos h8] at he; subst he)
        | (rw [if_neg h8] at he; subst he)
        go_enter Try.func45, Try.ntmps45
        go_wp2_with fail
        go_ret
        exact ⟨rfl, rfl⟩
    · rw [h4, if_pos rfl] at he; subst he
      go_enter Try.func45, Try.ntmps45
      go_wp2_with fail
      go_ret
      exact ⟨rfl, rfl⟩
def Tm.val (t : Tm) (o : Int) : Int := if nErr o = 0 then (if o = 0 then t.ld else if o = 4 then t.v else if o = 8 then ctl t.en t.re t.iq t.sc else tk t.st) else 0
theorem nLoad (t : Tm) (o : Int) (p : Nat) (w : World) (h : t.ok) (a : TAt w p tC t) (o0 : 0 ≤ o) (o1 : o < 4294967296) :
    Calls Try.prog 37 #[.pointer (some ⟨p, 0, none⟩), .int .u32 o] w fun e w' => e = .returned (.tuple #[.int .u32 (t.val o), .int .i64 (nErr o)]) ∧ w = w' := by
  have x0 := a.a5.c0
  have x1 := a.a5.c1
  have x2 := a.a5.c2
  have x3 := a.a5.c3
  clear a
  by_cases he : nErr o = 0
  · rcases nErr_zero o0 he with rfl | rfl | rfl | rfl
    all_goals
      go_enter Try.func37, Try.ntmps37
      go_wp2_with (first | (go_at_call 45; refine (nCheck _ _ _ (by omega) (by omega) 0 (by rfl)).mono ?_; rintro e w' ⟨rfl, rfl⟩))
      go_ret2
      exact ⟨rfl, rfl⟩
  · have hv : t.val o = 0 := by unfold Tm.val; rw [if_neg he]
    rw [hv]
    have hc : (if (some (⟨p, 0, none⟩ : Addr)) = none then 10 else nErr o) = nErr o := by rw [if_neg (by simp)]
    have hn : (nErr o == 0) = false := by simpa using he
    have hn2 : (nErr o != 0) = true := by simpa using he
    go_enter Try.func37, Try.ntmps37
    go_wp2_with fail
    refine (nCheck _ _ _ o0 o1 _ hc).mono ?_
    rintro e w' ⟨rfl, rfl⟩
    go_wp2_with fail
    go_ret2
    exact ⟨rfl, rfl⟩
theorem nLoadNil (o : Int) (w : World) (o0 : 0 ≤ o) (o1 : o < 4294967296) :
    Calls Try.prog 37 #[.pointer none, .int .u32 o] w fun e w' => e = .returned (.tuple #[.int .u32 0, .int .i64 10]) ∧ w = w' := by
  go_enter Try.func37, Try.ntmps37
  go_wp2_with fail
  refine (nCheck _ _ _ o0 o1 10 (by rfl)).mono ?_
  rintro e w' ⟨rfl, rfl⟩
  go_wp2_with fail
  go_ret2
  exact ⟨rfl, rfl⟩
theorem nReset (t : Tm) (p : Nat) (w : World) (a : TAt w p tC t) :
    Calls Try.prog 42 #[.pointer (some ⟨p, 0, none⟩)] w fun e w' => e = .returned (.tuple #[]) ∧ w' = w.setRow p (wl tz).toArray := by
  go_enter Try.func42, Try.ntmps42
  go_wp2_with (refine storeT rfl (.tmp 7) (.tmp 5) rfl rfl (t := tz) rfl a ?_)
  go_end0
  exact ⟨rfl, rfl⟩
theorem nResetNil (w : World) : Calls Try.prog 42 #[.pointer none] w fun e w' => e = .returned (.tuple #[]) ∧ w = w' := by
  go_enter Try.func42, Try.ntmps42
  go_wp2_with fail
  refine bodyPost_ret (v := .tuple #[]) ?_ rfl ⟨rfl, rfl⟩
  simp [results, Try.results42, go_sem]
theorem nCopy (t : Tm) (p : Nat) (w : World) (a : TAt w p tC t) :
    Calls Try.prog 41 #[.pointer (some ⟨p, 0, none⟩)] w fun e w' => e = .returned (.pointer (some ⟨w.heap.size, 0, none⟩)) ∧ w' = w.alloc (.cells (wl t).toArray tC (0, 0)) := by
  have x0 := a.a5.c0
  have x1 := a.a5.c1
  have x2 := a.a5.c2
  have x3 := a.a5.c3
  have x4 := a.a5.c4
  clear a
  go_enter Try.func41, Try.ntmps41
  go_wp2_with fail
  go_ret
  exact ⟨rfl, rfl⟩
theorem nCopyNil (w : World) : Calls Try.prog 41 #[.pointer none] w fun e w' => e = .returned (.pointer none) ∧ w = w' := by
  go_enter Try.func41, Try.ntmps41
  go_wp2_with fail
  go_ret
  exact ⟨rfl, rfl⟩
end Go.Proofs.Ytijjapmdkalfaaa.B
