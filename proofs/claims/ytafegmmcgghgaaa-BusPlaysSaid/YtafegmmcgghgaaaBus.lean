/- Package bus: single regions, and the document's. -/
import Derived.Test.YtafegmmcgghgaaaFileL
namespace Go.Proofs.Ytafegmmcgghgaaa.B
set_option linter.unusedVariables false
set_option linter.unusedSimpArgs false
open Go.ChangeShapes Go.WideShapes Go.RowKit Go.Sort
/-- Does an address belong to a region? -/
def hasB (b s a : Int) : Bool := decide (b ≤ a ∧ a - b < s)
theorem zHas (b s a : Int) (w : World) (b0 : 0 ≤ b) (b1 : b < 4294967296) (s0 : 0 ≤ s) (s1 : s < 4294967296) (a0 : 0 ≤ a) (a1 : a < 4294967296) :
    Calls Try.prog 69 #[.agg #[.int .u32 b, .int .u32 s], .int .u32 a] w fun e w' => e = .returned (.bool (hasB b s a)) ∧ Below w.heap.size w w' := by
  by_cases h1 : b ≤ a
  · by_cases h2 : a - b < s
    all_goals
      have h3 : decide (a - b < s) = hasB b s a := by unfold hasB; rw [decide_eq_decide]; omega
      have h4 := Lib.hid h3
      clear h3
      go_enter Try.func69, Try.ntmps69
      go_wp2_with fail
      go_ret
      exact ⟨ret_bool (by rw [← h4.out]; simp; omega), trA (tr0 w) _⟩
  · have h3 : hasB b s a = false := by unfold hasB; simp; omega
    have h4 := Lib.hid h3
    clear h3
    go_enter Try.func69, Try.ntmps69
    go_wp2_with fail
    go_ret
    exact ⟨ret_bool h4.out.symm, trA (tr0 w) _⟩
theorem rzHas (b s a : Int) (w : World) (b0 : 0 ≤ b) (b1 : b < 4294967296) (s0 : 0 ≤ s) (s1 : s < 4294967296) (a0 : 0 ≤ a) (a1 : a < 4294967296) :
    Calls Try.prog 54 #[.agg #[.int .u32 b, .int .u32 s], .int .u32 a] w fun e w' => e = .returned (.bool (hasB b s a)) ∧ Below w.heap.size w w' := by
  by_cases h1 : b ≤ a
  · by_cases h2 : a - b < s
    all_goals
      have h3 : decide (a - b < s) = hasB b s a := by unfold hasB; rw [decide_eq_decide]; omega
      have h4 := Lib.hid h3
      clear h3
      go_enter Try.func54, Try.ntmps54
      go_wp2_with fail
      go_ret
      exact ⟨ret_bool (by rw [← h4.out]; simp; omega), trA (tr0 w) _⟩
  · have h3 : hasB b s a = false := by unfold hasB; simp; omega
    have h4 := Lib.hid h3
    clear h3
    go_enter Try.func54, Try.ntmps54
    go_wp2_with fail
    go_ret
    exact ⟨ret_bool h4.out.symm, trA (tr0 w) _⟩
theorem zEnd (b s : Int) (w : World) (b0 : 0 ≤ b) (b1 : b < 4294967296) (s0 : 0 ≤ s) (s1 : s < 4294967296) :
    Calls Try.prog 60 #[.agg #[.int .u32 b, .int .u32 s]] w fun e w' => e = .returned (.int .u64 (b + s)) ∧ Below w.heap.size w w' := by
  go_enter Try.func60, Try.ntmps60
  go_wp2_with fail
  go_ret
  refine ⟨ret_int ?_, trA (tr0 w) _⟩
  rfl
theorem zHasAs (b s a : Int) (v : Bool) (w : World) (b0 : 0 ≤ b) (b1 : b < 4294967296) (s0 : 0 ≤ s) (s1 : s < 4294967296) (a0 : 0 ≤ a) (a1 : a < 4294967296) (hv : hasB b s a = v) :
    Calls Try.prog 69 #[.agg #[.int .u32 b, .int .u32 s], .int .u32 a] w fun e w' => e = .returned (.bool v) ∧ Below w.heap.size w w' := by
  rw [← hv]; exact zHas b s a w b0 b1 s0 s1 a0 a1
/-- Is there an address that belongs to both? -/
def meetB (b s c t : Int) : Bool := decide ((if b ≤ c then c else b) < (if b + s ≤ c + t then b + s else c + t))
theorem zMeet (b s c t : Int) (w : World) (b0 : 0 ≤ b) (b1 : b < 4294967296) (s0 : 0 ≤ s) (s1 : s < 4294967296) (c0 : 0 ≤ c) (c1 : c < 4294967296) (t0 : 0 ≤ t) (t1 : t < 4294967296) :
    Calls Try.prog 63 #[.agg #[.int .u32 b, .int .u32 s], .agg #[.int .u32 c, .int .u32 t]] w fun e w' => e = .returned (.bool (meetB b s c t)) ∧ Below w.heap.size w w' := by
  have hg := gcell
  have hf := gfrozen
  have hs0 : w.heap.size < w.heap.size + 1 + 1 := by omega
  have hs1 : w.heap.size + 1 < w.heap.size + 1 + 1 := by omega
  go_enter Try.func63, Try.ntmps63
  go_wp2_with fail
  refine wp_region_quiet_below (by kernel_rfl) (by kernel_rfl) ?_
  repeat (go_big_quiet_step (first
    | (go_at_call 60; exact Calls.regrown_of (zEnd _ _ _ b0 b1 s0 s1))
    | (go_at_call 60; exact Calls.regrown_of (zEnd _ _ _ c0 c1 t0 t1))))
  refine wpQuiet_nil ?_
  intro _ hw'
  obtain ⟨⟨dq, osq⟩, hw''⟩ := hw'
  subst hw''
  go_wp2_with fail
  all_goals
    go_ret
    refine ⟨ret_bool ?_, trG (trA (trA (tr0 w) _) _) _ _⟩
    unfold meetB
    rw [decide_eq_decide]
    clear hg hf
    (repeat' split) <;> omega
theorem meet_swap (b s c t : Int) : meetB c t b s = meetB b s c t := by
  unfold meetB
  rw [decide_eq_decide]
  split <;> split <;> split <;> split <;> omega
theorem meet_ref (b s c t : Int) (s0 : 0 ≤ s) (t0 : 0 ≤ t) : (decide (0 < s) && (decide (0 < t) && (hasB b s c || hasB c t b))) = meetB b s c t := by
  unfold meetB hasB
  rw [Bool.eq_iff_iff]
  simp only [Bool.and_eq_true, Bool.or_eq_true, decide_eq_true_eq]
  split <;> split <;> omega
theorem rzHasAs (b s a : Int) (v : Bool) (w : World) (b0 : 0 ≤ b) (b1 : b < 4294967296) (s0 : 0 ≤ s) (s1 : s < 4294967296) (a0 : 0 ≤ a) (a1 : a < 4294967296) (hv : hasB b s a = v) :
    Calls Try.prog 54 #[.agg #[.int .u32 b, .int .u32 s], .int .u32 a] w fun e w' => e = .returned (.bool v) ∧ Below w.heap.size w w' := by
  rw [← hv]; exact rzHas b s a w b0 b1 s0 s1 a0 a1
theorem rzMeet (b s c t : Int) (w : World) (b0 : 0 ≤ b) (b1 : b < 4294967296) (s0 : 0 ≤ s) (s1 : s < 4294967296) (c0 : 0 ≤ c) (c1 : c < 4294967296) (t0 : 0 ≤ t) (t1 : t < 4294967296) :
    Calls Try.prog 48 #[.agg #[.int .u32 b, .int .u32 s], .agg #[.int .u32 c, .int .u32 t]] w fun e w' => e = .returned (.bool (meetB b s c t)) ∧ Below w.heap.size w w' := by
  have hm := Lib.hid (meet_ref b s c t s0 t0)
  by_cases h1 : 0 < s
  · by_cases h2 : 0 < t
    · cases h3 : hasB b s c
      · cases h4 : hasB c t b
        all_goals
          have H3 := Lib.hid h3
          have H4 := Lib.hid h4
          clear h3 h4
          go_enter Try.func48, Try.ntmps48
          go_wp2_with fail
          refine (rzHasAs b s c _ _ b0 b1 s0 s1 c0 c1 H3.out).mono ?_
          rintro e w1 ⟨rfl, hb1⟩
          obtain ⟨hc, hf⟩ := bcell hb1
          have hz0 : w.heap.size < w.heap.size + 1 + 1 := by omega
          have hz1 : w.heap.size + 1 < w.heap.size + 1 + 1 := by omega
          go_wp2_with fail
          refine (rzHasAs c t b _ _ c0 c1 t0 t1 b0 b1 H4.out).mono ?_
          rintro e w2 ⟨rfl, hb2⟩
          go_wp2_with fail
          go_ret
          exact ⟨ret_bool (by rw [← hm.out, H3.out, H4.out]; simp [h1, h2]), tr (tr (trA (trA (tr0 w) _) _) hb1) hb2⟩
      · have H3 := Lib.hid h3
        clear h3
        go_enter Try.func48, Try.ntmps48
        go_wp2_with fail
        refine (rzHasAs b s c _ _ b0 b1 s0 s1 c0 c1 H3.out).mono ?_
        rintro e w1 ⟨rfl, hb1⟩
        go_wp2_with fail
        go_ret
        exact ⟨ret_bool (by rw [← hm.out, H3.out]; simp [h1, h2]), tr (trA (trA (tr0 w) _) _) hb1⟩
    · go_enter Try.func48, Try.ntmps48
      go_wp2_with fail
      go_ret
      exact ⟨ret_bool (by rw [← hm.out]; simp [h1, h2]; omega), trA (trA (tr0 w) _) _⟩
  · go_enter Try.func48, Try.ntmps48
    go_wp2_with fail
    go_ret
    exact ⟨ret_bool (by rw [← hm.out]; simp [h1]; omega), trA (trA (tr0 w) _) _⟩
end Go.Proofs.Ytafegmmcgghgaaa.B
