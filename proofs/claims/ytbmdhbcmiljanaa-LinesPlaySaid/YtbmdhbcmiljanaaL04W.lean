/- LinesPlay, of any arguments that fit. -/
import Derived.Test.YtbmdhbcmiljanaaL04P
namespace Go.Proofs.Ytbmdhbcmiljanaa.B
set_option linter.unusedVariables false
set_option linter.unusedSimpArgs false
open Go.ChangeShapes Go.WideShapes Go.RowKit Go.Sort
theorem fits_act {w : World} {cs : List Value} (h : Fits w (.pair (.int .i64) (.pair (.int .i64) (.pair .bool (.pair (.int .u32) (.pair (.int .u32) .unit))))) cs) :
    ∃ a : ActV, cs = [a.cell 0, a.cell 1, a.cell 2, a.cell 3, a.cell 4] ∧ a.fit := by
  obtain ⟨_, _, rfl, ⟨K, rfl, hK⟩, _, _, rfl, ⟨n, rfl, hn⟩, _, _, rfl, ⟨B, rfl⟩, _, _, rfl, ⟨o, rfl, ho⟩, _, _, rfl, ⟨v, rfl, hv⟩, rfl⟩ := h
  have k1 := bounds_i64 hK
  have n1 := bounds_i64 hn
  have o1 := bounds_u32 ho
  have v1 := bounds_u32 hv
  exact ⟨⟨K, n, B, o, v⟩, rfl, ⟨by simp; omega, by simp; omega, by simp; omega, by simp; omega⟩⟩
theorem linesPlay0 (w : World) (y : Option Addr) (cap : Nat) :
    Calls Try.prog 3 #[.slice y 0 cap] w fun e w' => e = .returned (.bool true) ∧ Below w.heap.size w w' := by
  go_enter Try.func3, Try.ntmps3
  go_wp2_with fail
  refine (lNew _).mono ?_
  rintro e w1 ⟨rfl, rfl⟩
  go_wp2_with fail
  have hbw := trA (trA (tr0 w) (.cells #[.int .u32 0, .int .u32 0] 55)) (.cells (lcs (bit 0) (bit 0)).toArray 27)
  rw [zeros27b]
  generalize ((w.alloc (.cells #[.int .u32 0, .int .u32 0] 55)).alloc (.cells (lcs (bit 0) (bit 0)).toArray 27)) = W at *
  refine wp_loop_rounds 1 ?_
  rw [rounds_succ]
  go_wp2_with fail
  refine (lKnown _).mono ?_
  rintro e w1 ⟨rfl, hb1⟩
  go_wp2_with fail
  go_ret
  exact ⟨rfl, tr hbw hb1⟩
theorem wLinesPlay (v0 : Value) (w : World) (h0 : FitsV w (.slice (.pair (.int .i64) (.pair (.int .i64) (.pair .bool (.pair (.int .u32) (.pair (.int .u32) .unit)))))) v0) :
    Calls Try.prog 3 #[v0] w fun e w' => e = .returned (.bool true) ∧ Below w.heap.size w w' := by
  obtain ⟨y, len, cap, rfl, rfl | ⟨b, off, rfl, hl, hm, hb, hz⟩⟩ := fits_slice h0 (by simp [Sh.size])
  · exact linesPlay0 w y cap
  · have g : ∀ i, i < cap → ∃ a : ActV, (∀ j, j < 5 → w.cell? ⟨b, off + (i * 5 + j), none⟩ = some (a.cell j)) ∧ a.fit := fun i hi => by
      obtain ⟨cs, hcl, hcell, hf⟩ := hz i hi
      obtain ⟨a, rfl, ha⟩ := fits_act hf
      refine ⟨a, fun j hj => ?_, ha⟩
      have := hcell j (by simpa [Sh.size] using hj)
      simp only [Sh.size] at this
      rw [this]
      match j, hj with
      | 0, _ => rfl
      | 1, _ => rfl
      | 2, _ => rfl
      | 3, _ => rfl
      | 4, _ => rfl
    refine linesPlay w b off len cap (fun i => if h : i < cap then (g i h).choose else ⟨0, 0, false, 0, 0⟩) hl hm hb fun i hi => ?_
    simp only [hi, dite_true]
    exact (g i hi).choose_spec
end Go.Proofs.Ytbmdhbcmiljanaa.B
