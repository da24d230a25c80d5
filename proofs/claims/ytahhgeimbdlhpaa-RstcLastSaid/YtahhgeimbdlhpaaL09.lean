/- The laws of layer 9: the chapter's example; RstcNil; Alike. -/
import Derived.Test.YtahhgeimbdlhpaaSRef3
import Derived.Test.YtahhgeimbdlhpaaFits
import Derived.OpenShut
namespace Go.Proofs.Ytahhgeimbdlhpaa.B
set_option linter.unusedVariables false
set_option linter.unusedSimpArgs false
open Go.ChangeShapes Go.WideShapes Go.RowKit Go.Sort Go.MapKept
theorem off_below9 {w a b : World} {p : Nat} (h : Below w.heap.size w a) (k : Off (· = p) a b) (hp : w.heap.size ≤ p) : Below w.heap.size w b := off_below h k hp (Nat.le_refl _)
theorem rk1 : rsN.ltc 2 = ⟨3, 1, 2, false⟩ := rfl
theorem rk2 : (⟨3, 1, 2, false⟩ : Rs).sto 0 1 = ⟨2, 1, 2, false⟩ := rfl
theorem rk1_ok : (⟨3, 1, 2, false⟩ : Rs).ok := rk1 ▸ Rs.ltc_ok rsN_ok 2
theorem rk2_ok : (⟨2, 1, 2, false⟩ : Rs).ok := rk2 ▸ Rs.sto_ok rk1_ok (by omega) (by omega)
theorem rsKnown (w : World) : Calls Try.prog 16 #[] w fun e w' => e = .returned (.bool true) ∧ Below w.heap.size w w' := by
  go_enter Try.func16, Try.ntmps16
  go_wp2_with fail
  refine (rsNew w).mono ?_
  rintro e w1 ⟨rfl, a1, b1⟩
  go_wp2_with fail
  have := rsLatch rsN 2 w.heap.size w1 rsN_ok a1
  rw [rk1, decide_eq_true (show isC 2 by unfold isC; omega)] at this
  refine this.mono ?_
  rintro e w2 ⟨rfl, a2, o2⟩
  have b2 := off_below9 b1 o2 (Nat.le_refl _)
  clear this a1 b1 o2
  go_wp2_with fail
  refine (rsCause _ _ _ rk1_ok a2).mono ?_
  rintro e w3 ⟨rfl, h3⟩
  have a3 := a2.below h3
  have b3 := tr b2 h3
  clear a2 b2 h3
  go_wp2_with fail
  refine (rsLast _ _ _ rk1_ok a3).mono ?_
  rintro e w4 ⟨rfl, h4⟩
  have a4 := a3.below h4
  have b4 := tr b3 h4
  clear a3 b3 h4
  go_wp2_with fail
  refine (rsCount _ _ _ a4).mono ?_
  rintro e w5 ⟨rfl, h5⟩
  have a5 := a4.below h5
  have b5 := tr b4 h5
  clear a4 b4 h5
  go_wp2_with fail
  have := rsStore _ 0 1 _ _ rk1_ok a5 (by omega) (by omega) (by omega) (by omega)
  rw [rk2, wErr_0] at this
  refine this.mono ?_
  rintro e w6 ⟨rfl, a6, o6⟩
  have b6 := off_below9 b5 o6 (Nat.le_refl _)
  clear this a5 b5 o6
  go_wp2_with fail
  refine (rsCause _ _ _ rk2_ok a6).mono ?_
  rintro e w7 ⟨rfl, h7⟩
  have b7 := tr b6 h7
  go_wp2_with fail
  go_ret
  exact ⟨rfl, b7⟩
theorem wRstcNil (v0 v1 : Value) (w : World) (h0 : FitsV w (.int .u32) v0) (h1 : FitsV w (.int .u32) v1) :
    Calls Try.prog 5 #[v0, v1] w fun e w' => e = .returned (.bool true) ∧ Below w.heap.size w w' := by
  obtain ⟨o, rfl, o0, o1⟩ := fits_u32 h0
  obtain ⟨v, rfl, v0, v1⟩ := fits_u32 h1
  go_enter Try.func5, Try.ntmps5
  go_wp2_with fail
  refine (rsLoadNil o _).mono ?_
  rintro e w1 ⟨rfl, h1⟩
  go_wp2_with fail
  refine (rsKnown _).mono ?_
  rintro e w2 ⟨rfl, h2⟩
  have b2 := tr h1 h2
  clear h1 h2
  go_wp2_with fail
  refine (rsLatchNil 2 _).mono ?_
  rintro e w3 ⟨rfl, h3⟩
  have b3 := tr b2 h3
  clear b2 h3
  go_wp2_with fail
  refine (rsAskedNil _).mono ?_
  rintro e w4 ⟨rfl, h4⟩
  have b4 := tr b3 h4
  clear b3 h4
  go_wp2_with fail
  refine (rsCauseNil _).mono ?_
  rintro e w5 ⟨rfl, h5⟩
  have b5 := tr b4 h5
  clear b4 h5
  go_wp2_with fail
  refine (rsLastNil _).mono ?_
  rintro e w6 ⟨rfl, h6⟩
  have b6 := tr b5 h6
  clear b5 h6
  go_wp2_with fail
  refine (rsCountNil _).mono ?_
  rintro e w7 ⟨rfl, h7⟩
  have b7 := tr b6 h7
  clear b6 h7
  go_wp2_with fail
  refine (rsStoreNil o v _).mono ?_
  rintro e w8 ⟨rfl, h8⟩
  have b8 := tr b7 h8
  clear b7 h8
  go_wp2_with fail
  refine (rsCopyNil _).mono ?_
  rintro e w9 ⟨rfl, rfl⟩
  go_wp2_with fail
  go_ret
  exact ⟨rfl, b8⟩
set_option maxRecDepth 100000 in
set_option maxHeartbeats 1600000 in
theorem rsAlike (t : Rs) (p : Nat) (w : World) (h : t.ok) (a : SAt w p tS t) :
    Calls Try.prog 15 #[.pointer (some ⟨p, 0, none⟩), .agg (ul t).toArray] w fun e w' => e = .returned (.bool true) ∧ Below w.heap.size w w' := by
  have hb := trA (tr0 w) (oU (bit t.ca) t.la t.ct t.qs)
  have X := u_new w (bit t.ca) t.la t.ct t.qs
  have A := a.alloc (oU (bit t.ca) t.la t.ct t.qs)
  have a0 := h.a0
  have a1 := h.a1
  have hz1 := self_eq t.ca
  have hz2 := self_eq t.la
  have hz3 := self_eq t.ct
  have hz4 : (t.qs == t.qs) = true := by simp
  have HC := Lib.hid (fun w' a => rsCause t p w' h a)
  have HL := Lib.hid (fun w' a => rsLast t p w' h a)
  have HT := Lib.hid (fun w' a => rsCount t p w' a)
  have HQ := Lib.hid (fun w' a => rsAsked t p w' a)
  clear a h
  unfold ul
  go_enter Try.func15, Try.ntmps15
  go_wp2_with fail
  rw [oU_eq]
  have hl := X.lt
  generalize w.alloc (oU (bit t.ca) t.la t.ct t.qs) = W at *
  have x32 := X.c32
  have x33 := X.c33
  have x34 := X.c34
  have hg := gcell
  refine wp_region_quiet_below (by kernel_rfl) (by kernel_rfl) ?_
  repeat (first
    | go_big_quiet_skip
    | (go_big_quiet_want; first
        | (refine qload25U (.tmp 7) rfl rfl X.grown ?_; go_simp; go_big_quiet_on)
        | (go_big_quiet_op; first
            | go_big_quiet_on
            | go_big_quiet_call (first
                | (go_at_call 17; exact Calls.regrown_of (HC.out _ (A.below (below_regrown W _ _))))
                | (go_at_call 26; exact Calls.regrown_of (rWordB t.ca _ a0 a1))
                | (go_at_call 19; exact Calls.regrown_of (HL.out _ (A.below (below_regrown W _ _))))
                | (go_at_call 20; exact Calls.regrown_of (HT.out _ (A.below (below_regrown W _ _))))
                | (go_at_call 21; exact Calls.regrown_of (HQ.out _ (A.below (below_regrown W _ _))))))))
  refine wpQuiet_nil ?_
  intro _ hw'
  obtain ⟨⟨dq, osq⟩, hw''⟩ := hw'
  subst hw''
  go_wp2_with fail
  go_ret
  exact ⟨rfl, trG hb _ _⟩
end Go.Proofs.Ytahhgeimbdlhpaa.B
