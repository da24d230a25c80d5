/- The laws of layer 2 over single registers: each returns true, and writes nothing that was there. -/
import Derived.Test.YtpndngiegjekpaaRNil
import Derived.Test.YtpndngiegjekpaaFits
import Derived.OpenShut
import Derived.Laws.StructEq
namespace Go.Proofs.Ytpndngiegjekpaa.B
set_option linter.unusedVariables false
set_option linter.unusedSimpArgs false
open Go.ChangeShapes Go.WideShapes Go.RowKit Go.Sort
set_option maxRecDepth 100000 in
set_option maxHeartbeats 1600000 in
theorem regTurns (a s r c v x : Int) (a0 : 0 ≤ a) (a1 : a < 4294967296) (r0 : 0 ≤ r) (r1 : r < 4294967296) (c0 : 0 ≤ c) (c1 : c < 4294967296) (v0 : 0 ≤ v) (v1 : v < 4294967296) (x0 : 0 ≤ x) (x1 : x < 4294967296) (w : World) :
    Calls Try.prog 3 #[.agg #[.int .u32 a, .int .u32 s, .int .u32 r, .int .u32 c], .int .u32 v, .int .u32 x] w
      fun e w' => e = .returned (.bool true) ∧ Below w.heap.size w w' := by
  have hg := gcell
  have hf := gfrozen
  go_enter Try.func3, Try.ntmps3
  go_wp2_with fail
  refine wp_region_quiet_below (by kernel_rfl) (by kernel_rfl) ?_
  repeat (go_big_quiet_step (first
    | (go_at_call 7; exact Calls.regrown_of (known _))
    | (go_at_call 8; exact Calls.regrown_of (Store _ _ _ _ _ _ a0 a1 r0 r1 c0 c1 v0 v1))
    | (go_at_call 9; exact Calls.regrown_of (rStore _ _ _ _ _ _ a0 a1 r0 r1 c0 c1 v0 v1))
    | (go_at_call 10; exact Calls.regrown_of (Raise _ _ _ _ _ _ a0 a1 x0 x1))
    | (go_at_call 12; exact Calls.regrown_of (Fall _ _ _ _ _ _ a0 a1 x0 x1))
    | (go_at_call 13; exact Calls.regrown_of (Again _ _ _ _ _))
    | (go_at_call 14; exact Calls.regrown_of (rAgain _ _ _ _ _))
    | (go_at_call 15; exact Calls.regrown_of (Only _ _ _ _ _))
    | (go_at_call 16; exact Calls.regrown_of (rOnly _ _ _ _ _))
    | (go_at_call 11; exact Calls.regrown_of (rTurn _ _ _ _ _ _ _ a0 a1 (by omega) (by omega) (by omega) (by omega)))))
  refine wpQuiet_nil ?_
  intro _ hw'
  obtain ⟨⟨dq, osq⟩, hw''⟩ := hw'
  subst hw''
  go_wp2_with fail
  go_ret
  exact ⟨rfl, trG (trA (trA (tr0 w) _) _) _ _⟩
theorem fits_reg {w : World} {v : Value} (h : FitsV w (.pair (.int .u32) (.pair (.int .u32) (.pair (.int .u32) (.pair (.int .u32) .unit)))) v) :
    ∃ a s r c : Int, v = .agg #[.int .u32 a, .int .u32 s, .int .u32 r, .int .u32 c] ∧ (0 ≤ a ∧ a < 4294967296) ∧ (0 ≤ s ∧ s < 4294967296) ∧ (0 ≤ r ∧ r < 4294967296) ∧ (0 ≤ c ∧ c < 4294967296) := by
  obtain ⟨l, rfl, _, _, rfl, ⟨a, rfl, ha⟩, _, _, rfl, ⟨s, rfl, hs⟩, _, _, rfl, ⟨r, rfl, hr⟩, _, _, rfl, ⟨c, rfl, hc⟩, rfl⟩ := h
  have a1 := bounds_u32 ha
  have s1 := bounds_u32 hs
  have r1 := bounds_u32 hr
  have c1 := bounds_u32 hc
  exact ⟨a, s, r, c, rfl, by omega, by omega, by omega, by omega⟩
theorem wRegTurns (v0 v1 v2 : Value) (w : World) (h0 : FitsV w (.pair (.int .u32) (.pair (.int .u32) (.pair (.int .u32) (.pair (.int .u32) .unit)))) v0) (h1 : FitsV w (.int .u32) v1) (h2 : FitsV w (.int .u32) v2) :
    Calls Try.prog 3 #[v0, v1, v2] w fun e w' => e = .returned (.bool true) ∧ Below w.heap.size w w' := by
  obtain ⟨a, s, r, c, rfl, ⟨a0, a1⟩, _, ⟨r0, r1⟩, ⟨c0, c1⟩⟩ := fits_reg h0
  obtain ⟨v, rfl, v0, v1⟩ := fits_u32 h1
  obtain ⟨x, rfl, x0, x1⟩ := fits_u32 h2
  exact regTurns a s r c v x a0 a1 r0 r1 c0 c1 v0 v1 x0 x1 w
set_option maxRecDepth 100000 in
set_option maxHeartbeats 1600000 in
theorem wRegNil (v0 v1 : Value) (w : World) (h0 : FitsV w (.int .u32) v0) (h1 : FitsV w (.int .u32) v1) :
    Calls Try.prog 6 #[v0, v1] w fun e w' => e = .returned (.bool true) ∧ Below w.heap.size w w' := by
  obtain ⟨a, rfl, a0, a1⟩ := fits_u32 h0
  obtain ⟨v, rfl, v0, v1⟩ := fits_u32 h1
  go_enter Try.func6, Try.ntmps6
  go_wp2_with fail
  refine (nAgain _).mono ?_
  rintro e w' ⟨rfl, rfl⟩
  go_wp2_with fail
  refine (nLoad _ _).mono ?_
  rintro e w1 ⟨rfl, hb1⟩
  go_wp2_with fail
  refine (known _).mono ?_
  rintro e w2 ⟨rfl, hb2⟩
  go_wp2_with fail
  refine (nDefine _ _ _ _ _ _).mono ?_
  rintro e w3 ⟨rfl, hb3⟩
  go_wp2_with fail
  refine (nStore _ _ _).mono ?_
  rintro e w4 ⟨rfl, hb4⟩
  go_wp2_with fail
  refine (nTurn _ _ _ _).mono ?_
  rintro e w5 ⟨rfl, hb5⟩
  go_wp2_with fail
  refine (nOffsets _).mono ?_
  rintro e w' ⟨rfl, rfl⟩
  go_wp2_with fail
  refine (nCopy _).mono ?_
  rintro e w' ⟨rfl, rfl⟩
  go_wp2_with fail
  go_ret
  exact ⟨rfl, tr (tr (tr (tr hb1 hb2) hb3) hb4) hb5⟩
end Go.Proofs.Ytpndngiegjekpaa.B
