/- What a bank's methods return: Left, Timer, find, Load, Store. -/
import Derived.Test.YtijjapmdkalfaaaGBank
import Derived.Deep.Cut
namespace Go.Proofs.Ytijjapmdkalfaaa.B
set_option linter.unusedVariables false
set_option linter.unusedSimpArgs false
open Go.ChangeShapes Go.WideShapes Go.RowKit Go.Sort
section
variable {p g n : Nat} {q : Nat → Nat} {t : Nat → Tm} {w : World}
theorem bTimer (h : BkAt w p g n q t) (i : Nat) (hi : i < n) : Calls Try.prog 17 #[.pointer (some ⟨p, 0, none⟩), .int .i64 i] w fun e w' => e = .returned (.pointer (some ⟨w.heap.size, 0, none⟩)) ∧ w' = w.alloc (.cells (wl (t i)).toArray tC (0, 0)) := by
  have n8 := h.rm.n8
  have c0 := h.c0
  have hc := h.get hi
  have ht := h.rm.tms i hi
  have H := Lib.hid h
  clear h
  go_enter Try.func17, Try.ntmps17
  go_wp2_with fail
  refine (bLen H.out).mono ?_
  rintro e w1 ⟨rfl, rfl⟩
  go_wp2_with fail
  refine (nCopy (t i) (q i) _ ht).mono ?_
  rintro e w1 ⟨rfl, rfl⟩
  go_wp2_with fail
  go_ret
  exact ⟨rfl, rfl⟩
theorem bTimerNo (h : BkAt w p g n q t) (i : Int) (hi : i < 0 ∨ (n : Int) ≤ i) : Calls Try.prog 17 #[.pointer (some ⟨p, 0, none⟩), .int .i64 i] w fun e w' => e = .returned (.pointer none) ∧ w = w' := by
  have n8 := h.rm.n8
  by_cases h0 : i < 0
  · go_enter Try.func17, Try.ntmps17
    go_wp2_with fail
    go_ret
    exact ⟨rfl, rfl⟩
  · have h1 : (n : Int) ≤ i := by omega
    clear hi
    go_enter Try.func17, Try.ntmps17
    go_wp2_with fail
    refine (bLen h).mono ?_
    rintro e w1 ⟨rfl, rfl⟩
    go_wp2_with fail
    go_ret
    exact ⟨rfl, rfl⟩
theorem bTimerNil (i : Int) (i0 : 0 ≤ i) (w : World) : Calls Try.prog 17 #[.pointer none, .int .i64 i] w fun e w' => e = .returned (.pointer none) ∧ w = w' := by
  go_enter Try.func17, Try.ntmps17
  go_wp2_with fail
  refine (bLenNil w).mono ?_
  rintro e w1 ⟨rfl, rfl⟩
  go_wp2_with fail
  go_ret
  exact ⟨rfl, rfl⟩
theorem bFindNil (o : Int) (w : World) : Calls Try.prog 30 #[.pointer none, .int .u32 o] w fun e w' => e = .returned (.tuple #[.pointer none, .int .u32 0, .int .i64 10]) ∧ w = w' := by
  go_enter Try.func30, Try.ntmps30
  go_wp2_with fail
  refine bodyPost_ret (v := .tuple #[.pointer none, .int .u32 0, .int .i64 10]) ?_ rfl ⟨rfl, rfl⟩
  simp [results, Try.results30, go_sem]
theorem bFindNo (h : BkAt w p g n q t) (o E : Int) (o0 : 0 ≤ o) (o1 : o < 4294967296) (hE : kErr n o = E) (hne : E ≠ 0) :
    Calls Try.prog 30 #[.pointer (some ⟨p, 0, none⟩), .int .u32 o] w fun e w' => e = .returned (.tuple #[.pointer none, .int .u32 0, .int .i64 E]) ∧ w = w' := by
  have n8 := h.rm.n8
  have H := Lib.hid h
  clear h
  unfold kErr at hE
  cases h4 : (o % 4 != 0)
  · rw [h4, if_neg (by simp)] at hE
    by_cases hn : (n : Int) ≤ o / 32
    · rw [if_pos hn] at hE
      subst hE
      clear hne
      go_enter Try.func30, Try.ntmps30
      go_wp2_with fail
      refine (bLen H.out).mono ?_
      rintro e w1 ⟨rfl, rfl⟩
      go_wp2_with fail
      refine bodyPost_ret (v := .tuple #[.pointer none, .int .u32 0, .int .i64 10]) ?_ rfl ⟨rfl, rfl⟩
      simp [results, Try.results30, go_sem]
    · rw [if_neg hn] at hE
      exact absurd hE.symm hne
  · rw [h4, if_pos rfl] at hE
    subst hE
    clear hne
    go_enter Try.func30, Try.ntmps30
    go_wp2_with fail
    refine bodyPost_ret (v := .tuple #[.pointer none, .int .u32 0, .int .i64 11]) ?_ rfl ⟨rfl, rfl⟩
    simp [results, Try.results30, go_sem]
theorem kErr_zero {n : Nat} {o : Int} (o0 : 0 ≤ o) (h : kErr n o = 0) : (o % 4 != 0) = false ∧ o / 32 < n ∧ (o / 32).toNat < n := by
  unfold kErr at h
  cases h4 : (o % 4 != 0)
  · rw [h4, if_neg (by simp)] at h
    by_cases hn : (n : Int) ≤ o / 32
    · rw [if_pos hn] at h; omega
    · exact ⟨rfl, by omega, by omega⟩
  · rw [h4, if_pos rfl] at h; omega
theorem bFind (h : BkAt w p g n q t) (o : Int) (o0 : 0 ≤ o) (o1 : o < 4294967296) (hE : kErr n o = 0) :
    Calls Try.prog 30 #[.pointer (some ⟨p, 0, none⟩), .int .u32 o] w fun e w' => e = .returned (.tuple #[.pointer (some ⟨q (o / 32).toNat, 0, none⟩), .int .u32 (o % 32), .int .i64 0]) ∧ w = w' := by
  obtain ⟨h4, hn, hk⟩ := kErr_zero o0 hE
  have n8 := h.rm.n8
  have c0 := h.c0
  have hc := h.get hk
  have H := Lib.hid h
  clear h hE
  go_enter Try.func30, Try.ntmps30
  go_wp2_with fail
  refine (bLen H.out).mono ?_
  rintro e w1 ⟨rfl, rfl⟩
  go_wp2_with fail
  refine bodyPost_ret (v := .tuple #[.pointer (some ⟨q (o / 32).toNat, 0, none⟩), .int .u32 (o % 32), .int .i64 0]) ?_ rfl ⟨rfl, rfl⟩
  simp [results, Try.results30, go_sem]
end
end Go.Proofs.Ytijjapmdkalfaaa.B
