/- The laws BusMeets and BusNil: which regions meet; a nil bus has no regions. -/
import Derived.Test.YtjfnhnbimcbjmaaBKnow
import Derived.Test.YtjfnhnbimcbjmaaFits
import Derived.OpenShut
namespace Go.Proofs.Ytjfnhnbimcbjmaa.B
set_option linter.unusedVariables false
set_option linter.unusedSimpArgs false
open Go.ChangeShapes Go.WideShapes Go.RowKit Go.Sort Go.Shelf
theorem zMeetSw (b s c t : Int) (w : World) (b0 : 0 ≤ b) (b1 : b < 4294967296) (s0 : 0 ≤ s) (s1 : s < 4294967296) (c0 : 0 ≤ c) (c1 : c < 4294967296) (t0 : 0 ≤ t) (t1 : t < 4294967296) :
    Calls Try.prog 9 #[.agg #[.int .u32 c, .int .u32 t], .agg #[.int .u32 b, .int .u32 s]] w fun e w' => e = .returned (.bool (meetB b s c t)) ∧ Below w.heap.size w w' := by
  rw [← meet_swap]; exact zMeet c t b s w c0 c1 t0 t1 b0 b1 s0 s1
theorem fits_region {w : World} {v : Value} (h : FitsV w (.pair (.int .u32) (.pair (.int .u32) .unit)) v) :
    ∃ b s : Int, v = .agg #[.int .u32 b, .int .u32 s] ∧ (0 ≤ b ∧ b < 4294967296) ∧ (0 ≤ s ∧ s < 4294967296) := by
  obtain ⟨l, rfl, _, _, rfl, ⟨b, rfl, hb⟩, _, _, rfl, ⟨s, rfl, hs⟩, rfl⟩ := h
  have b1 := bounds_u32 hb
  have s1 := bounds_u32 hs
  exact ⟨b, s, rfl, by omega, by omega⟩
set_option maxRecDepth 100000 in
set_option maxHeartbeats 1600000 in
theorem wBusMeets (v0 v1 v2 : Value) (w : World) (h0 : FitsV w (.pair (.int .u32) (.pair (.int .u32) .unit)) v0) (h1 : FitsV w (.pair (.int .u32) (.pair (.int .u32) .unit)) v1) (h2 : FitsV w (.int .u32) v2) :
    Calls Try.prog 3 #[v0, v1, v2] w fun e w' => e = .returned (.bool true) ∧ Below w.heap.size w w' := by
  obtain ⟨b, s, rfl, ⟨b0, b1⟩, ⟨s0, s1⟩⟩ := fits_region h0
  obtain ⟨c, t, rfl, ⟨c0, c1⟩, ⟨t0, t1⟩⟩ := fits_region h1
  obtain ⟨a, rfl, a0, a1⟩ := fits_u32 h2
  have e1 : (meetB b s c t == meetB b s c t) = true := beq_self_eq_true _
  have e2 : (meetB c t b s == meetB b s c t) = true := by rw [meet_swap]; exact beq_self_eq_true _
  have e3 : (hasB b s a == hasB b s a) = true := beq_self_eq_true _
  have hg := gcell
  have hf := gfrozen
  have hs0 : w.heap.size < w.heap.size + 1 + 1 := by omega
  have hs1 : w.heap.size + 1 < w.heap.size + 1 + 1 := by omega
  go_enter Try.func3, Try.ntmps3
  go_wp2_with fail
  refine wp_region_quiet_below (by kernel_rfl) (by kernel_rfl) ?_
  repeat (go_big_quiet_step (first
    | (go_at_call 8; exact Calls.regrown_of (zknown _))
    | (go_at_call 9; exact Calls.regrown_of (zMeet _ _ _ _ _ (by assumption) (by assumption) (by assumption) (by assumption) (by assumption) (by assumption) (by assumption) (by assumption)))
    | (go_at_call 10; exact Calls.regrown_of (rzMeet _ _ _ _ _ (by assumption) (by assumption) (by assumption) (by assumption) (by assumption) (by assumption) (by assumption) (by assumption)))
    | (go_at_call 11; exact Calls.regrown_of (zHas _ _ _ _ b0 b1 s0 s1 a0 a1))
    | (go_at_call 12; exact Calls.regrown_of (rzHas _ _ _ _ b0 b1 s0 s1 a0 a1))))
  refine wpQuiet_nil ?_
  intro _ hw'
  obtain ⟨⟨dq, osq⟩, hw''⟩ := hw'
  subst hw''
  go_wp2_with fail
  go_ret
  exact ⟨rfl, trG (trA (trA (tr0 w) _) _) _ _⟩
theorem zRegionsNil (w : World) :
    Calls Try.prog 25 #[.pointer none] w fun e w' => e = .returned (.slice none 0 0) ∧ w = w' := by
  go_enter Try.func25, Try.ntmps25
  go_wp2_with fail
  go_ret
  exact ⟨rfl, rfl⟩
set_option maxRecDepth 100000 in
set_option maxHeartbeats 1600000 in
theorem busNil (a v E : Int) (w : World) (a0 : 0 ≤ a) (a1 : a < 4294967296) (hE : (E = 10 ∧ (a % 4 != 0) = false) ∨ (E = 11 ∧ (a % 4 != 0) = true)) :
    Calls Try.prog 6 #[.int .u32 a, .int .u32 v] w fun e w' => e = .returned (.bool true) ∧ Below w.heap.size w w' := by
  have hEn : (E != 0) = true := by rcases hE with ⟨rfl, _⟩ | ⟨rfl, _⟩ <;> rfl
  have hf : ∀ w', Calls Try.prog 35 #[.pointer none, .int .u32 a] w' fun e w'' => e = .returned (.tuple #[zeroSeatV, .int .i64 E]) ∧ Below w'.heap.size w' w'' := by
    intro w'
    rcases hE with ⟨rfl, h⟩ | ⟨rfl, h⟩
    · exact zFindNil a w' a0 h
    · exact zFindBad a none w' a0 h
  have k1 := fun w => zFindXErr none a E w hEn (fun w' _ => hf w')
  have k2 := fun w => zLoadErr none a E w hEn (fun w' _ => hf w')
  have k3 := fun w => zStoreErr none a E v w hEn (fun w' _ => hf w')
  clear hEn hf
  rcases hE with ⟨rfl, h⟩ | ⟨rfl, h⟩
  all_goals
    go_enter Try.func6, Try.ntmps6
    go_wp2_with fail
    refine (k1 _).mono ?_
    rintro e w1 ⟨rfl, hb1⟩
    go_wp2_with fail
    refine (k2 _).mono ?_
    rintro e w2 ⟨rfl, hb2⟩
    have hbw2 := tr (trA hb1 (.cells #[.int .u32 0, .int .u32 0] 24)) hb2
    clear hb1 hb2
    go_wp2_with fail
    refine (zknown _).mono ?_
    rintro e w3 ⟨rfl, hb3⟩
    have hbw3 := tr hbw2 hb3
    clear hbw2 hb3
    go_wp2_with fail
    refine (k3 _).mono ?_
    rintro e w4 ⟨rfl, hb4⟩
    have hbw4 := tr hbw3 hb4
    clear hbw3 hb4
    go_wp2_with fail
    refine (fNew _).mono ?_
    rintro e w5 ⟨rfl, _, hb5⟩
    have hbw5 := tr hbw4 hb5
    clear hbw4 hb5
    go_wp2_with fail
    refine (zAttachNil _ _ _ ⟨_, _, rfl⟩ _).mono ?_
    rintro e w6 ⟨rfl, hb6⟩
    have hbw6 := tr hbw5 hb6
    clear hbw5 hb6
    go_wp2_with fail
    refine (zRegionsNil _).mono ?_
    rintro e w7 ⟨rfl, rfl⟩
    go_wp2_with fail
    go_ret
    exact ⟨rfl, hbw6⟩
theorem wBusNil (v0 v1 : Value) (w : World) (h0 : FitsV w (.int .u32) v0) (h1 : FitsV w (.int .u32) v1) :
    Calls Try.prog 6 #[v0, v1] w fun e w' => e = .returned (.bool true) ∧ Below w.heap.size w w' := by
  obtain ⟨a, rfl, a0, a1⟩ := fits_u32 h0
  obtain ⟨v, rfl, _, _⟩ := fits_u32 h1
  cases h : (a % 4 != 0)
  · exact busNil a v 10 w a0 a1 (.inl ⟨rfl, h⟩)
  · exact busNil a v 11 w a0 a1 (.inr ⟨rfl, h⟩)
end Go.Proofs.Ytjfnhnbimcbjmaa.B
