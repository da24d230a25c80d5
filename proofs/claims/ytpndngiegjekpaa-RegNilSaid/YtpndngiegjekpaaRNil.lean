/- A nil file has no registers: what each call answers. -/
import Derived.Test.YtpndngiegjekpaaRKnown
namespace Go.Proofs.Ytpndngiegjekpaa.B
set_option linter.unusedVariables false
set_option linter.unusedSimpArgs false
open Go.ChangeShapes Go.WideShapes Go.RowKit Go.Sort
theorem nOffsets (w : World) :
    Calls Try.prog 30 #[.pointer none] w fun e w' => e = .returned (.slice none 0 0) ∧ w = w' := by
  go_enter Try.func30, Try.ntmps30
  go_wp2_with fail
  go_ret
  exact ⟨rfl, rfl⟩
theorem nAgain (w : World) :
    Calls Try.prog 26 #[.pointer none] w fun e w' => e = .returned (.tuple #[]) ∧ w = w' := by
  go_enter Try.func26, Try.ntmps26
  go_step3
  go_wp2_with fail
  go_step3
  go_wp2_with fail
  refine (nOffsets _).mono ?_
  rintro e w' ⟨rfl, rfl⟩
  go_wp2_with fail
  refine wp_loop_rounds 1 ?_
  rw [rounds_succ]
  go_wp2_with fail
  rw [Exit.noGoto_normal]
  go_end0
  exact ⟨rfl, rfl⟩
theorem nCheck (off : Int) (w : World) :
    Calls Try.prog 33 #[.pointer none, .int .u32 off] w fun e w' => e = .returned (.int .i64 10) ∧ w = w' := by
  go_enter Try.func33, Try.ntmps33
  go_wp2_with fail
  go_ret
  exact ⟨rfl, rfl⟩
theorem nFind (off : Int) (w : World) :
    Calls Try.prog 34 #[.pointer none, .int .u32 off] w fun e w' => e = .returned (.tuple #[.agg #[.int .u32 0, .int .u32 0, .int .u32 0, .int .u32 0], .int .i64 10]) ∧ Below w.heap.size w w' := by
  go_enter Try.func34, Try.ntmps34
  go_wp2_with fail
  refine (nCheck _ _).mono ?_
  rintro e w' ⟨rfl, rfl⟩
  go_wp2_with fail
  refine bodyPost_ret (v := .tuple #[.agg #[.int .u32 0, .int .u32 0, .int .u32 0, .int .u32 0], .int .i64 10]) ?_ rfl ?_
  · simp [results, Try.results34, go_sem]
  · exact ⟨rfl, trA (tr0 w) _⟩
theorem nLoad (off : Int) (w : World) :
    Calls Try.prog 21 #[.pointer none, .int .u32 off] w fun e w' => e = .returned (.tuple #[.int .u32 0, .int .i64 10]) ∧ Below w.heap.size w w' := by
  go_enter Try.func21, Try.ntmps21
  go_wp2_with fail
  refine (nFind _ _).mono ?_
  rintro e w1 ⟨rfl, hb⟩
  go_wp2_with fail
  go_ret2
  exact ⟨rfl, trA hb _⟩
theorem nDefine (off a s r c : Int) (w : World) :
    Calls Try.prog 19 #[.pointer none, .int .u32 off, .agg #[.int .u32 a, .int .u32 s, .int .u32 r, .int .u32 c]] w fun e w' => e = .returned (.int .i64 10) ∧ Below w.heap.size w w' := by
  go_enter Try.func19, Try.ntmps19
  go_wp2_with fail
  refine (nCheck _ _).mono ?_
  rintro e w' ⟨rfl, rfl⟩
  go_wp2_with fail
  go_ret
  exact ⟨rfl, trA (tr0 w) _⟩
theorem nChange (off : Int) (f : Value) (w : World) :
    Calls Try.prog 36 #[.pointer none, .int .u32 off, f] w fun e w' => e = .returned (.int .i64 10) ∧ Below w.heap.size w w' := by
  go_enter Try.func36, Try.ntmps36
  go_wp2_with fail
  refine (nFind _ _).mono ?_
  rintro e w1 ⟨rfl, hb⟩
  go_wp2_with fail
  go_ret
  exact ⟨rfl, trA hb _⟩
theorem nStore (off v : Int) (w : World) :
    Calls Try.prog 23 #[.pointer none, .int .u32 off, .int .u32 v] w fun e w' => e = .returned (.int .i64 10) ∧ Below w.heap.size w w' := by
  go_enter Try.func23, Try.ntmps23
  go_wp2_with fail
  refine (nFind _ _).mono ?_
  rintro e w1 ⟨rfl, hb⟩
  go_wp2_with fail
  refine (nChange _ _ _).mono ?_
  rintro e w2 ⟨rfl, hb2⟩
  go_wp2_with fail
  go_ret
  exact ⟨rfl, tr (trA (tr (trA (tr0 w) _) hb) _) hb2⟩
theorem nTurn (off v u : Int) (w : World) :
    Calls Try.prog 25 #[.pointer none, .int .u32 off, .int .u32 v, .int .u32 u] w fun e w' => e = .returned (.int .i64 10) ∧ Below w.heap.size w w' := by
  go_enter Try.func25, Try.ntmps25
  go_wp2_with fail
  refine (nChange _ _ _).mono ?_
  rintro e w2 ⟨rfl, hb2⟩
  go_wp2_with fail
  go_ret
  exact ⟨rfl, tr (trA (trA (tr0 w) _) _) hb2⟩
theorem nCopy (w : World) :
    Calls Try.prog 28 #[.pointer none] w fun e w' => e = .returned (.pointer none) ∧ w = w' := by
  go_enter Try.func28, Try.ntmps28
  go_wp2_with fail
  go_ret
  exact ⟨rfl, rfl⟩
end Go.Proofs.Ytpndngiegjekpaa.B
