/- Layer 8: a Wdog's block; New, Fault, Enabled, Locked, Armed, Since, runs, Left, check, control, free, Load, Reset, Copy. -/
import Derived.Test.YtcgmnjajodegmaaGreatZNab
import Derived.Test.YtcgmnjajodegmaaGreatZNac
import Derived.Test.YtcgmnjajodegmaaGreatZNaj
import Derived.Deep.Cut
import Derived.Laws.StructEq
namespace Go.Proofs.YtcgmnjajodegmaaGreat.B
set_option linter.unusedVariables false
set_option linter.unusedSimpArgs false
open Go.ChangeShapes Go.WideShapes Go.RowKit Go.Sort
def dl (t : Wd) : List Value := [.bool t.en, .bool t.lk, .int .i64 t.fa, .int .u32 t.cl, .int .u32 t.tot, .int .u64 t.si, .bool t.ar]
abbrev tD : TypeId := 117
def DAt (w : World) (b : Nat) (t : Wd) : Prop := w.heap[b]? = some (.cells (dl t).toArray tD (0, 0))
section
variable {w w' : World} {b : Nat} {t : Wd}
theorem DAt.lt (h : DAt w b t) : b < w.heap.size := lt_of_block h
theorem DAt.below (h : DAt w b t) (hb : Below w.heap.size w w') : DAt w' b t := blk_below hb h h.lt
theorem DAt.off {S : Nat → Prop} (h : DAt w b t) (ho : Off S w w') (hs : ¬ S b) : DAt w' b t := ho.at h hs
theorem DAt.free (h : DAt w b t) (j : Nat) : w.frozen? ⟨b, j, none⟩ = false := blk_free h j
theorem DAt.c0 (h : DAt w b t) : w.cell? ⟨b, 0, none⟩ = some (.bool t.en) := by rw [blk_cell h 0]; rfl
theorem DAt.c1 (h : DAt w b t) : w.cell? ⟨b, 1, none⟩ = some (.bool t.lk) := by rw [blk_cell h 1]; rfl
theorem DAt.c2 (h : DAt w b t) : w.cell? ⟨b, 2, none⟩ = some (.int .i64 t.fa) := by rw [blk_cell h 2]; rfl
theorem DAt.c3 (h : DAt w b t) : w.cell? ⟨b, 3, none⟩ = some (.int .u32 t.cl) := by rw [blk_cell h 3]; rfl
theorem DAt.c4 (h : DAt w b t) : w.cell? ⟨b, 4, none⟩ = some (.int .u32 t.tot) := by rw [blk_cell h 4]; rfl
theorem DAt.c5 (h : DAt w b t) : w.cell? ⟨b, 5, none⟩ = some (.int .u64 t.si) := by rw [blk_cell h 5]; rfl
theorem DAt.c6 (h : DAt w b t) : w.cell? ⟨b, 6, none⟩ = some (.bool t.ar) := by rw [blk_cell h 6]; rfl
theorem DAt.set (h : DAt w b t) (j : Nat) (x : Value) {s : Wd} (he : (dl t).set j x = dl s) : DAt (w.setCell ⟨b, j, none⟩ x) b s := by
  unfold DAt; rw [blk_set h, ← he]; simp
theorem DAt.s0 (h : DAt w b t) (x : Bool) : DAt (w.setCell ⟨b, 0, none⟩ (.bool x)) b { t with en := x } := h.set _ _ rfl
theorem DAt.s1 (h : DAt w b t) (x : Bool) : DAt (w.setCell ⟨b, 1, none⟩ (.bool x)) b { t with lk := x } := h.set _ _ rfl
theorem DAt.s2 (h : DAt w b t) (x : Int) : DAt (w.setCell ⟨b, 2, none⟩ (.int .i64 x)) b { t with fa := x } := h.set _ _ rfl
theorem DAt.s3 (h : DAt w b t) (x : Int) : DAt (w.setCell ⟨b, 3, none⟩ (.int .u32 x)) b { t with cl := x } := h.set _ _ rfl
theorem DAt.s4 (h : DAt w b t) (x : Int) : DAt (w.setCell ⟨b, 4, none⟩ (.int .u32 x)) b { t with tot := x } := h.set _ _ rfl
theorem DAt.s5 (h : DAt w b t) (x : Int) : DAt (w.setCell ⟨b, 5, none⟩ (.int .u64 x)) b { t with si := x } := h.set _ _ rfl
theorem DAt.s6 (h : DAt w b t) (x : Bool) : DAt (w.setCell ⟨b, 6, none⟩ (.bool x)) b { t with ar := x } := h.set _ _ rfl
theorem DAt.elseRow (h : DAt w b t) (g : Nat) (cs : Array Value) (hne : b ≠ g) : DAt (w.setRow g cs) b t := row_else g cs h hne
end
theorem dNew (w : World) : Calls Tryz.prog 75 #[] w fun e w' => e = .returned (.pointer (some ⟨w.heap.size, 0, none⟩)) ∧ w' = w.alloc (.cells (dl wz).toArray tD (0, 0)) := by
  go_enter Tryz.func75, Tryz.ntmps75
  go_wp2_with fail
  go_ret
  exact ⟨rfl, rfl⟩
theorem dFault (t : Wd) (p : Nat) (w : World) (a : DAt w p t) : Calls Tryz.prog 109 #[.pointer (some ⟨p, 0, none⟩)] w fun e w' => e = .returned (.int .i64 t.fa) ∧ w = w' := by
  have x := a.c2
  go_enter Tryz.func109, Tryz.ntmps109
  go_wp2_with fail
  go_ret
  exact ⟨rfl, rfl⟩
theorem dFaultNil (w : World) : Calls Tryz.prog 109 #[.pointer none] w fun e w' => e = .returned (.int .i64 0) ∧ w = w' := by
  go_enter Tryz.func109, Tryz.ntmps109
  go_wp2_with fail
  go_ret
  exact ⟨rfl, rfl⟩
theorem dSince (t : Wd) (p : Nat) (w : World) (a : DAt w p t) : Calls Tryz.prog 23 #[.pointer (some ⟨p, 0, none⟩)] w fun e w' => e = .returned (.int .u64 t.si) ∧ w = w' := by
  have x := a.c5
  go_enter Tryz.func23, Tryz.ntmps23
  go_wp2_with fail
  go_ret
  exact ⟨rfl, rfl⟩
theorem dSinceNil (w : World) : Calls Tryz.prog 23 #[.pointer none] w fun e w' => e = .returned (.int .u64 0) ∧ w = w' := by
  go_enter Tryz.func23, Tryz.ntmps23
  go_wp2_with fail
  go_ret
  exact ⟨rfl, rfl⟩
theorem dEnabled (t : Wd) (p : Nat) (w : World) (a : DAt w p t) : Calls Tryz.prog 33 #[.pointer (some ⟨p, 0, none⟩)] w fun e w' => e = .returned (.bool t.en) ∧ w = w' := by
  have x := a.c0
  go_enter Tryz.func33, Tryz.ntmps33
  go_wp2_with fail
  go_ret
  exact ⟨ret_bool (by simp), rfl⟩
theorem dEnabledNil (w : World) : Calls Tryz.prog 33 #[.pointer none] w fun e w' => e = .returned (.bool false) ∧ w = w' := by
  go_enter Tryz.func33, Tryz.ntmps33
  go_wp2_with fail
  go_ret
  exact ⟨rfl, rfl⟩
theorem dLocked (t : Wd) (p : Nat) (w : World) (a : DAt w p t) : Calls Tryz.prog 34 #[.pointer (some ⟨p, 0, none⟩)] w fun e w' => e = .returned (.bool t.lk) ∧ w = w' := by
  have x := a.c1
  go_enter Tryz.func34, Tryz.ntmps34
  go_wp2_with fail
  go_ret
  exact ⟨ret_bool (by simp), rfl⟩
theorem dLockedNil (w : World) : Calls Tryz.prog 34 #[.pointer none] w fun e w' => e = .returned (.bool false) ∧ w = w' := by
  go_enter Tryz.func34, Tryz.ntmps34
  go_wp2_with fail
  go_ret
  exact ⟨rfl, rfl⟩
theorem dArmed (t : Wd) (p : Nat) (w : World) (a : DAt w p t) : Calls Tryz.prog 110 #[.pointer (some ⟨p, 0, none⟩)] w fun e w' => e = .returned (.bool t.ar) ∧ w = w' := by
  have x := a.c6
  go_enter Tryz.func110, Tryz.ntmps110
  go_wp2_with fail
  go_ret
  exact ⟨ret_bool (by simp), rfl⟩
theorem dArmedNil (w : World) : Calls Tryz.prog 110 #[.pointer none] w fun e w' => e = .returned (.bool false) ∧ w = w' := by
  go_enter Tryz.func110, Tryz.ntmps110
  go_wp2_with fail
  go_ret
  exact ⟨rfl, rfl⟩
/-- A state's three cells, by value. -/
def st3 (t : Wd) : Value := .agg #[.bool t.en, .bool t.lk, .int .i64 t.fa]
def oS (t : Wd) : Obj := .cells #[.bool t.en, .bool t.lk, .int .i64 t.fa] 115 (0, 0)
theorem dRuns (t : Wd) (w : World) : Calls Tryz.prog 165 #[.agg #[.bool t.en, .bool t.lk, .int .i64 t.fa]] w fun e w' => e = .returned (.bool (decide (t.en = true ∧ t.fa = 0))) ∧ Below w.heap.size w w' := by
  have hb := trA (tr0 w) (oS t)
  by_cases hf : t.fa = 0
  · have q : (t.fa == 0) = true := by simpa using hf
    obtain ⟨en, hen⟩ : ∃ b, t.en = b := ⟨_, rfl⟩
    rw [hen]
    cases en
    all_goals
      rw [hf]
      have hb := trA (tr0 w) (.cells #[.bool t.en, .bool t.lk, .int .i64 t.fa] 115 (0, 0))
      rw [hf, hen] at hb
      go_enter Tryz.func165, Tryz.ntmps165
      go_wp2_with fail
      go_ret
      exact ⟨ret_bool (by simp), hb⟩
  · have q : (t.fa == 0) = false := by simpa using hf
    have hd : decide (t.en = true ∧ t.fa = 0) = false := by simp [hf]
    rw [hd]
    clear hf hd
    obtain ⟨en, hen⟩ : ∃ b, t.en = b := ⟨_, rfl⟩
    unfold oS at hb
    rw [hen] at hb ⊢
    cases en
    all_goals
      go_enter Tryz.func165, Tryz.ntmps165
      go_wp2_with fail
      go_ret
      exact ⟨rfl, hb⟩
theorem dFree (t : Wd) (w : World) : Calls Tryz.prog 238 #[.agg #[.bool t.en, .bool t.lk, .int .i64 t.fa]] w fun e w' => e = .returned (.bool (decide (t.en = false ∧ t.lk = false ∧ t.fa = 0))) ∧ Below w.heap.size w w' := by
  have hb := trA (tr0 w) (oS t)
  have hd : decide (t.en = false ∧ t.lk = false ∧ t.fa = 0) = ((t.en == false) && ((t.lk == false) && (t.fa == 0))) := by cases t.en <;> cases t.lk <;> first | (simp; done) | (simp; rfl)
  rw [hd]
  unfold oS at hb
  clear hd
  cases q : (t.fa == 0)
  all_goals
    obtain ⟨en, hen⟩ : ∃ b, t.en = b := ⟨_, rfl⟩
    obtain ⟨lk, hlk⟩ : ∃ b, t.lk = b := ⟨_, rfl⟩
    rw [hen, hlk] at hb ⊢
    cases en <;> cases lk
    all_goals
      go_enter Tryz.func238, Tryz.ntmps238
      go_wp2_with fail
      go_ret
      exact ⟨rfl, hb⟩
theorem put_en : put 0 0 1 1 = 1 := by decide +kernel
theorem put_lk0 : put 0 1 1 1 = 2 := by decide +kernel
theorem put_lk1 : put 1 1 1 1 = 3 := by decide +kernel
theorem dControl (t : Wd) (w : World) : Calls Tryz.prog 163 #[.agg #[.bool t.en, .bool t.lk, .int .i64 t.fa]] w fun e w' => e = .returned (.int .u32 (tk t.en + 2 * tk t.lk)) ∧ Below w.heap.size w w' := by
  have hb := trA (tr0 w) (oS t)
  unfold oS at hb
  obtain ⟨en, hen⟩ : ∃ b, t.en = b := ⟨_, rfl⟩
  obtain ⟨lk, hlk⟩ : ∃ b, t.lk = b := ⟨_, rfl⟩
  have P1 := Lib.hid (fun w => by have := Put 0 0 1 1 w (by omega) (by omega) (by omega) (by omega) (by omega) (by omega); rw [put_en] at this; exact this)
  have P2 := Lib.hid (fun w => by have := Put 0 1 1 1 w (by omega) (by omega) (by omega) (by omega) (by omega) (by omega); rw [put_lk0] at this; exact this)
  have P3 := Lib.hid (fun w => by have := Put 1 1 1 1 w (by omega) (by omega) (by omega) (by omega) (by omega) (by omega); rw [put_lk1] at this; exact this)
  rw [hen, hlk] at hb ⊢
  cases en <;> cases lk
  · go_enter Tryz.func163, Tryz.ntmps163
    go_wp2_with fail
    go_ret
    exact ⟨rfl, hb⟩
  · go_enter Tryz.func163, Tryz.ntmps163
    go_wp2_with fail
    refine (P2.out _).mono ?_
    rintro e w' ⟨rfl, rfl⟩
    go_wp2_with fail
    go_ret
    exact ⟨rfl, hb⟩
  · go_enter Tryz.func163, Tryz.ntmps163
    go_wp2_with fail
    refine (P1.out _).mono ?_
    rintro e w' ⟨rfl, rfl⟩
    go_wp2_with fail
    go_ret
    exact ⟨rfl, hb⟩
  · go_enter Tryz.func163, Tryz.ntmps163
    go_wp2_with fail
    refine (P1.out _).mono ?_
    rintro e w' ⟨rfl, rfl⟩
    go_wp2_with fail
    refine (P3.out _).mono ?_
    rintro e w' ⟨rfl, rfl⟩
    go_wp2_with fail
    go_ret
    exact ⟨rfl, hb⟩
theorem dLeft (t : Wd) (p : Nat) (w : World) (h : t.ok) (a : DAt w p t) : Calls Tryz.prog 111 #[.pointer (some ⟨p, 0, none⟩)] w fun e w' => e = .returned (.int .u64 t.left) ∧ Below w.heap.size w w' := by
  have x0 := a.c0
  have x1 := a.c1
  have x2 := a.c2
  have hr := dRuns t w
  unfold Wd.left
  by_cases hc : t.en = true ∧ t.fa = 0
  · rw [if_pos hc]
    rw [decide_eq_true hc] at hr
    have hrun := h.run hc.1 hc.2
    have s0 := h.s0
    have t1 := h.t1
    have hr := Lib.hid hr
    clear hc h
    go_enter Tryz.func111, Tryz.ntmps111
    go_wp2_with fail
    refine (hr.out).mono ?_
    rintro e w1 ⟨rfl, hb⟩
    have a1 := a.below hb
    clear hr x0 x1 x2 a
    have x4 := a1.c4
    have x5 := a1.c5
    go_wp2_with fail
    have hg := gcell
    have hl := a1.lt
    refine wp_region_quiet_below (by kernel_rfl) (by kernel_rfl) ?_
    repeat (go_big_quiet_step (fail))
    refine wpQuiet_nil ?_
    intro _ hw'
    obtain ⟨⟨dq, osq⟩, hw''⟩ := hw'
    subst hw''
    go_wp2_with fail
    go_ret
    exact ⟨rfl, trG hb _ _⟩
  · rw [if_neg hc]
    rw [decide_eq_false hc] at hr
    have hr := Lib.hid hr
    clear hc h
    go_enter Tryz.func111, Tryz.ntmps111
    go_wp2_with fail
    refine (hr.out).mono ?_
    rintro e w1 ⟨rfl, hb⟩
    go_wp2_with fail
    go_ret
    exact ⟨rfl, hb⟩
theorem dLeftNil (w : World) : Calls Tryz.prog 111 #[.pointer none] w fun e w' => e = .returned (.int .u64 18446744073709551615) ∧ w = w' := by
  go_enter Tryz.func111, Tryz.ntmps111
  go_wp2_with fail
  go_ret
  exact ⟨rfl, rfl⟩
/-- Errors, in the walk's spelling. -/
theorem wErr_not {o : Int} (h : (o % 4 != 0) = true) : wErr o = 11 := by unfold wErr; rw [if_pos (by simpa using h)]
theorem wErr_far {o : Int} (h : (o % 4 != 0) = false) (k : 20 ≤ o) : wErr o = 10 := by unfold wErr; rw [if_neg (by simpa using h), if_neg (by omega)]
theorem wErr_ok {o : Int} (h : (o % 4 != 0) = false) (k : o < 20) : wErr o = 0 := by
  unfold wErr; have : o % 4 = 0 := by simpa using h
  rw [if_neg (by simpa using h), if_pos (by omega)]
theorem wErr_val (o : Int) : wErr o = 0 ∨ wErr o = 10 ∨ wErr o = 11 := by
  unfold wErr; split
  · exact .inr (.inr rfl)
  · split
    · exact .inl rfl
    · exact .inr (.inl rfl)
theorem wErr_zero {o : Int} (o0 : 0 ≤ o) (h : wErr o = 0) : o = 0 ∨ o = 4 ∨ o = 8 ∨ o = 12 ∨ o = 16 := by
  unfold wErr at h
  split at h
  · cases h
  · split at h
    · rename_i h1 h2
      have : o % 4 = 0 := by simpa using h1
      omega
    · cases h
theorem dCheck (x : Option Addr) (o : Int) (w : World) (o0 : 0 ≤ o) (o1 : o < 4294967296) (e : Int) (he : (if x = none then 10 else wErr o) = e) :
    Calls Tryz.prog 162 #[.pointer x, .int .u32 o] w fun e' w' => e' = .returned (.int .i64 e) ∧ w = w' := by
  cases x with
  | none =>
    rw [if_pos rfl] at he; subst he
    go_enter Tryz.func162, Tryz.ntmps162
    go_wp2_with fail
    go_ret
    exact ⟨rfl, rfl⟩
  | some x =>
    rw [if_neg (by simp)] at he
    cases h4 : (o % 4 != 0)
    · by_cases h8 : 20 ≤ o
      · rw [wErr_far h4 h8] at he; subst he
        go_enter Tryz.func162, Tryz.ntmps162
        go_wp2_with fail
        go_ret
        exact ⟨rfl, rfl⟩
      · rw [wErr_ok h4 (by omega)] at he; subst he
        go_enter Tryz.func162, Tryz.ntmps162
        go_wp2_with fail
        go_ret
        exact ⟨rfl, rfl⟩
    · rw [wErr_not h4] at he; subst he
      go_enter Tryz.func162, Tryz.ntmps162
      go_wp2_with fail
      go_ret
      exact ⟨rfl, rfl⟩
theorem lo_small {a : Int} (h0 : 0 ≤ a) (h1 : a < 4294967296) : lo a = a := by unfold lo; omega
theorem Wd.val_none {t : Wd} {o : Int} (o0 : 0 ≤ o) (h : wErr o ≠ 0) : t.val o = 0 := by
  unfold Wd.val
  rw [if_neg (fun e => h (by rw [e]; rfl)), if_neg (fun e => h (by rw [e]; rfl)), if_neg (fun e => h (by rw [e]; rfl)), if_neg (fun e => h (by rw [e]; rfl))]
theorem dLoad (t : Wd) (o : Int) (p : Nat) (w : World) (h : t.ok) (a : DAt w p t) (o0 : 0 ≤ o) (o1 : o < 4294967296) :
    Calls Tryz.prog 108 #[.pointer (some ⟨p, 0, none⟩), .int .u32 o] w fun e w' => e = .returned (.tuple #[.int .u32 (t.val o), .int .i64 (wErr o)]) ∧ Below w.heap.size w w' := by
  have x0 := a.c0
  have x1 := a.c1
  have x2 := a.c2
  have x3 := a.c3
  have x4 := a.c4
  have x5 := a.c5
  have s0 := h.s0
  have s1 : t.si < 4294967296 := by have := h.s1; have := h.t1; omega
  have hL := Lib.hid (fun w => by have := Lo t.si w s0 (by omega); rw [lo_small s0 s1] at this; exact this)
  have hC := Lib.hid (fun w => dControl t w)
  clear a h
  by_cases he : wErr o = 0
  · rcases wErr_zero o0 he with rfl | rfl | rfl | rfl | rfl
    · go_enter Tryz.func108, Tryz.ntmps108
      go_wp2_with (go_at_call 162; refine (dCheck _ _ _ (by omega) (by omega) 0 (by rfl)).mono ?_; rintro e w' ⟨rfl, rfl⟩)
      refine (hC.out _).mono ?_
      rintro e w1 ⟨rfl, hb⟩
      go_wp2_with fail
      go_ret2
      exact ⟨rfl, hb⟩
    all_goals
      go_enter Tryz.func108, Tryz.ntmps108
      go_wp2_with (first | (go_at_call 162; refine (dCheck _ _ _ (by omega) (by omega) 0 (by rfl)).mono ?_; rintro e w' ⟨rfl, rfl⟩) | (go_at_call 164; refine (hL.out _).mono ?_; rintro e w' ⟨rfl, rfl⟩))
      go_ret2
      exact ⟨rfl, tr0 w⟩
  · rw [Wd.val_none o0 he]
    have hc : (if (some (⟨p, 0, none⟩ : Addr)) = none then 10 else wErr o) = wErr o := by rw [if_neg (by simp)]
    have hn : (wErr o == 0) = false := by simpa using he
    have hn2 : (wErr o != 0) = true := by simpa using he
    go_enter Tryz.func108, Tryz.ntmps108
    go_wp2_with fail
    refine (dCheck _ _ _ o0 o1 _ hc).mono ?_
    rintro e w' ⟨rfl, rfl⟩
    go_wp2_with fail
    go_ret2
    exact ⟨rfl, tr0 w⟩
theorem dLoadNil (o : Int) (w : World) (o0 : 0 ≤ o) (o1 : o < 4294967296) :
    Calls Tryz.prog 108 #[.pointer none, .int .u32 o] w fun e w' => e = .returned (.tuple #[.int .u32 0, .int .i64 10]) ∧ w = w' := by
  go_enter Tryz.func108, Tryz.ntmps108
  go_wp2_with fail
  refine (dCheck _ _ _ o0 o1 10 (by rfl)).mono ?_
  rintro e w' ⟨rfl, rfl⟩
  go_wp2_with fail
  go_ret2
  exact ⟨rfl, rfl⟩
end Go.Proofs.YtcgmnjajodegmaaGreat.B
