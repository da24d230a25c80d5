/- The document's own answers of layer 8: a register read, a register written. -/
import Derived.Test.YtlgdlmhgifhchaaWR2
import Derived.Test.YtlgdlmhgifhchaaWdog
namespace Go.Proofs.Ytlgdlmhgifhchaa.B
set_option linter.unusedVariables false
set_option linter.unusedSimpArgs false
open Go.ChangeShapes Go.WideShapes Go.RowKit Go.Sort
theorem rLoW (a : Int) (w : World) (h0 : 0 ≤ a) (h1 : a < 18446744073709551616) :
    Calls Try.prog 32 #[.int .u64 a] w fun e w' => e = .returned (.int .u32 (lo a)) ∧ w = w' := by
  go_enter Try.func32, Try.ntmps32
  go_wp2
  go_ret
  exact ⟨rfl, rfl⟩
theorem vLoad (t : Wd) (o : Int) (w : World) (h : t.ok) (o0 : 0 ≤ o) (o1 : o < 4294967296) :
    Calls Try.prog 24 #[.agg (vl t).toArray, .int .u32 o] w fun e w' => e = .returned (.tuple #[.int .u32 (t.val o), .int .i64 (wErr o)]) ∧ Below w.heap.size w w' := by
  have hB := trA (tr0 w) (oV t)
  have X : VAt (w.alloc (oV t)) w.heap.size t := blk_new w (oV t)
  have x0 := X.c0
  have x1 := X.c1
  have x3 := X.c3
  have x4 := X.c4
  have x5 := X.c5
  have s0 := h.s0
  have s1 : t.si < 4294967296 := by have := h.s1; have := h.t1; omega
  have hL := Lib.hid (fun w => by have := rLoW t.si w s0 (by omega); rw [lo_small s0 s1] at this; exact this)
  clear h
  by_cases he : wErr o = 0
  · rcases wErr_zero o0 he with rfl | rfl | rfl | rfl | rfl
    · have hv : t.val 0 = tk t.en + 2 * tk t.lk := rfl
      rw [hv]
      obtain ⟨en, hen⟩ : ∃ b, t.en = b := ⟨_, rfl⟩
      obtain ⟨lk, hlk⟩ : ∃ b, t.lk = b := ⟨_, rfl⟩
      rw [hen, hlk]
      rw [hen] at x0
      rw [hlk] at x1
      clear hv hen hlk
      cases en <;> cases lk
      all_goals
        go_enter Try.func24, Try.ntmps24
        go_upto_region 1 with (fail)
        rw [oV_eq]
        generalize w.alloc (oV t) = W at *
        go_wp2_with fail
        go_ret2
        exact ⟨rfl, hB⟩
    all_goals
      go_enter Try.func24, Try.ntmps24
      go_upto_region 1 with (fail)
      rw [oV_eq]
      generalize w.alloc (oV t) = W at *
      go_wp2_with (first | (go_at_call 32; refine (hL.out _).mono ?_; rintro e w' ⟨rfl, rfl⟩))
      go_ret2
      exact ⟨rfl, hB⟩
  · rw [Wd.val_none o0 he]
    cases h4 : (o % 4 != 0)
    · by_cases h8 : 20 ≤ o
      · rw [wErr_far h4 h8]
        have q0 : (o == 0) = false := by simp; omega
        have q4 : (o == 4) = false := by simp; omega
        have q8 : (o == 8) = false := by simp; omega
        have q12 : (o == 12) = false := by simp; omega
        have q16 : (o == 16) = false := by simp; omega
        clear he
        go_enter Try.func24, Try.ntmps24
        go_upto_region 1 with (fail)
        rw [oV_eq]
        generalize w.alloc (oV t) = W at *
        go_wp2_with fail
        go_ret2
        exact ⟨rfl, hB⟩
      · exact absurd (wErr_ok h4 (by omega)) he
    · rw [wErr_not h4]
      clear he
      go_enter Try.func24, Try.ntmps24
      go_upto_region 1 with (fail)
      rw [oV_eq]
      generalize w.alloc (oV t) = W at *
      go_wp2_with fail
      go_ret2
      exact ⟨rfl, hB⟩
end Go.Proofs.Ytlgdlmhgifhchaa.B
