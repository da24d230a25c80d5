/- What each function of package reg that takes registers returns, in the plain numbers of RPlain. -/
import Derived.Test.YtfhggmiaablcnaaKit
import Derived.Test.YtfhggmiaablcnaaRPlain
namespace Go.Proofs.Ytfhggmiaablcnaa.B
set_option linter.unusedVariables false
set_option linter.unusedSimpArgs false
open Go.ChangeShapes Go.WideShapes Go.RowKit
theorem Fall (a s r c v : Int) (w : World) (a0 : 0 ≤ a) (a1 : a < 4294967296) (v0 : 0 ≤ v) (v1 : v < 4294967296) :
    Calls Try.prog 42 #[.agg #[.int .u32 a, .int .u32 s, .int .u32 r, .int .u32 c], .int .u32 v] w
      fun e w' => e = .returned (.agg #[.int .u32 (tnV a 0 v), .int .u32 s, .int .u32 r, .int .u32 c]) ∧ Below w.heap.size w w' := by
  go_enter Try.func42, Try.ntmps42
  go_wp2
  refine bodyPost_ret (v := .agg #[.int .u32 (tnV a 0 v), .int .u32 s, .int .u32 r, .int .u32 c]) ?_ rfl ?_
  · simp [results, Try.results42, go_sem]
    exact fall_code a v a0 a1 v0 v1
  · exact ⟨rfl, ((Below.refl _ _).alloc (Nat.le_refl _) _).alloc (by simp) _⟩
/-- Read-only. -/
def only (r c : Int) : Bool := (r == 0) && (c == 0)
theorem Only (a s r c : Int) (w : World) :
    Calls Try.prog 36 #[.agg #[.int .u32 a, .int .u32 s, .int .u32 r, .int .u32 c]] w
      fun e w' => e = .returned (.bool (only r c)) ∧ Below w.heap.size w w' := by
  cases h1 : (r == 0)
  all_goals
    cases h2 : (c == 0)
    all_goals
      go_enter Try.func36, Try.ntmps36
      go_wp2
      go_ret
      exact ⟨ret_bool (by unfold only; rw [h1, h2]; rfl), (Below.refl _ _).alloc (Nat.le_refl _) _⟩
theorem Store (a s r c v : Int) (w : World) (a0 : 0 ≤ a) (a1 : a < 4294967296) (r0 : 0 ≤ r) (r1 : r < 4294967296) (c0 : 0 ≤ c) (c1 : c < 4294967296) (v0 : 0 ≤ v) (v1 : v < 4294967296) :
    Calls Try.prog 39 #[.agg #[.int .u32 a, .int .u32 s, .int .u32 r, .int .u32 c], .int .u32 v] w
      fun e w' => e = .returned (.agg #[.int .u32 (stV a r c v), .int .u32 s, .int .u32 r, .int .u32 c]) ∧ Below w.heap.size w w' := by
  have hA := andNot_bounds a r a0 a1 r0 r1
  have hB := and_bounds v r v0 v1 r0 r1
  have hC := or_bounds _ _ hA.1 hA.2 hB.1 hB.2
  have hD := and_bounds v c v0 v1 c0 c1
  have hE := Lib.hid (fall_code _ _ hC.1 hC.2 hD.1 hD.2)
  have hF := Lib.hid (store_code a r c v a0 a1 r0 r1 c0 c1 v0 v1)
  go_enter Try.func39, Try.ntmps39
  go_wp2_with fail
  refine (Fall _ _ _ _ _ _ hC.1 hC.2 hD.1 hD.2).mono ?_
  rintro e w1 ⟨rfl, hb⟩
  obtain ⟨hc, hf⟩ := bcell hb
  have hz : w.heap.size + 1 < w1.heap.size := by have := hb.size; simp at this; omega
  go_wp2_with fail
  have hv : tnV (bits BinOp.or IntKind.u32 (bits BinOp.andNot IntKind.u32 a r) (bits BinOp.and IntKind.u32 v r)) 0 (bits BinOp.and IntKind.u32 v c) = stV a r c v := by rw [← hE.out, hF.out]
  refine bodyPost_ret (v := .agg #[.int .u32 (stV a r c v), .int .u32 s, .int .u32 r, .int .u32 c]) ?_ rfl ?_
  · simp [results, Try.results39, go_sem, hc, hz, hv]
  · exact ⟨rfl, (((((((Below.refl _ _).alloc (Nat.le_refl _) _).alloc (by simp) _).trans (hb.mono (by simp; omega))).setCell (by simp) _).setCell (by simp) _).setCell (by simp) _).setCell (by simp) _⟩
end Go.Proofs.Ytfhggmiaablcnaa.B
