/- What a Count's Store does. -/
import Derived.Test.YtijjapmdkalfaaaNCount
namespace Go.Proofs.Ytijjapmdkalfaaa.B
set_option linter.unusedVariables false
set_option linter.unusedSimpArgs false
open Go.ChangeShapes Go.WideShapes Go.RowKit Go.Sort
def Tm.sto (t : Tm) (o x : Int) : Tm := if o = 0 then { t with ld := x } else if o = 8 then t.ord x else if o = 12 then { t with st := t.st && !bit x 0 } else t
theorem Tm.sto_ok {t : Tm} (h : t.ok) (o x : Int) (x0 : 0 ≤ x) (x1 : x < 4294967296) : (t.sto o x).ok := by
  unfold Tm.sto
  split
  · exact ⟨x0, x1, h.v0, h.v1, h.s0, h.s1, h.p0, h.p1⟩
  · split
    · exact Tm.ord_ok h x
    · split
      · exact ⟨h.l0, h.l1, h.v0, h.v1, h.s0, h.s1, h.p0, h.p1⟩
      · exact h
def nSErr (o : Int) : Int := if nErr o = 0 then (if o = 4 then 12 else 0) else nErr o
theorem nStore (t : Tm) (o x : Int) (p : Nat) (w : World) (h : t.ok) (a : TAt w p tC t) (o0 : 0 ≤ o) (o1 : o < 4294967296) (x0 : 0 ≤ x) (x1 : x < 4294967296) :
    Calls Try.prog 31 #[.pointer (some ⟨p, 0, none⟩), .int .u32 o, .int .u32 x] w fun e w' => e = .returned (.int .i64 (nSErr o)) ∧ TAt w' p tC (if nSErr o = 0 then t.sto o x else t) ∧ Off (· = p) w w' := by
  by_cases he : nErr o = 0
  · rcases nErr_zero o0 he with rfl | rfl | rfl | rfl
    · have z0 := a.a5.c0
      have f0 := a.a5.free 0
      go_enter Try.func31, Try.ntmps31
      go_wp2_with (first | (go_at_call 45; refine (nCheck _ _ _ (by omega) (by omega) 0 (by rfl)).mono ?_; rintro e w' ⟨rfl, rfl⟩))
      go_ret
      exact ⟨rfl, a.a5.s0 x, off_set _ _ _ _⟩
    · go_enter Try.func31, Try.ntmps31
      go_wp2_with (first | (go_at_call 45; refine (nCheck _ _ _ (by omega) (by omega) 0 (by rfl)).mono ?_; rintro e w' ⟨rfl, rfl⟩))
      go_ret
      exact ⟨rfl, a, Off.refl _ _⟩
    · go_enter Try.func31, Try.ntmps31
      go_wp2_with (first | (go_at_call 45; refine (nCheck _ _ _ (by omega) (by omega) 0 (by rfl)).mono ?_; rintro e w' ⟨rfl, rfl⟩) | (refine loadT rfl (.tmp 29) rfl rfl a ?_))
      refine (nOrd t x w h x0 x1).mono ?_
      rintro e w1 ⟨rfl, hb⟩
      have a1 := a.below hb
      go_wp2_with (refine storeT rfl (.tmp 34) (.tmp 32) rfl rfl rfl a1 ?_)
      go_ret
      exact ⟨rfl, TAt.row a1 _, (Off.ofBelow hb).trans (off_row _ _ _)⟩
    · have z3 := a.a5.c3
      have f3 := a.a5.free 3
      have hk := status_code t.st x x0 x1
      have hl := a.lt
      go_enter Try.func31, Try.ntmps31
      go_wp2_with (first | (go_at_call 45; refine (nCheck _ _ _ (by omega) (by omega) 0 (by rfl)).mono ?_; rintro e w' ⟨rfl, rfl⟩))
      have hg := gcell
      have hf := gfrozen
      refine wp_region_tail_below 12 (by kernel_rfl) (by kernel_rfl) ?_
      simp only [List.take_succ_cons, List.take_zero, List.drop_succ_cons, List.drop_zero]
      repeat (go_big_quiet_step (fail))
      refine wpQuiet_nil ?_
      intro _ hw'
      obtain ⟨⟨dq, osq⟩, hw''⟩ := hw'
      subst hw''
      go_wp2_with fail
      go_ret
      have a1 := a.below (below_regrown w dq osq)
      refine ⟨rfl, ?_, (Off.ofBelow (below_regrown w dq osq)).trans (off_set _ _ _ _)⟩
      have := a1.a5.s3 (tk (t.st && !bit x 0))
      first
      | (rw [hk]; exact this)
      | exact this
  · have hs : nSErr o = nErr o := by unfold nSErr; rw [if_neg he]
    rw [hs, if_neg he]
    have hc : (if (some (⟨p, 0, none⟩ : Addr)) = none then 10 else nErr o) = nErr o := by rw [if_neg (by simp)]
    have hn : (nErr o == 0) = false := by simpa using he
    have hn2 : (nErr o != 0) = true := by simpa using he
    go_enter Try.func31, Try.ntmps31
    go_wp2_with fail
    refine (nCheck _ _ _ o0 o1 _ hc).mono ?_
    rintro e w' ⟨rfl, rfl⟩
    go_wp2_with fail
    go_ret
    exact ⟨rfl, a, Off.refl _ _⟩
theorem nStoreNil (o x : Int) (w : World) (o0 : 0 ≤ o) (o1 : o < 4294967296) :
    Calls Try.prog 31 #[.pointer none, .int .u32 o, .int .u32 x] w fun e w' => e = .returned (.int .i64 10) ∧ w = w' := by
  go_enter Try.func31, Try.ntmps31
  go_wp2_with fail
  refine (nCheck _ _ _ o0 o1 10 (by rfl)).mono ?_
  rintro e w' ⟨rfl, rfl⟩
  go_wp2_with fail
  go_ret
  exact ⟨rfl, rfl⟩
end Go.Proofs.Ytijjapmdkalfaaa.B
