/- What a bank's Left returns: the least left, and whose it is. -/
import Derived.Test.YtijjapmdkalfaaaGBank2
namespace Go.Proofs.Ytijjapmdkalfaaa.B
set_option linter.unusedVariables false
set_option linter.unusedSimpArgs false
open Go.ChangeShapes Go.WideShapes Go.RowKit Go.Sort
section
variable {p g n : Nat} {q : Nat → Nat} {t : Nat → Tm} {w : World}
theorem bLeft (h : BkAt w p g n q t) (m i : Int) (hb : Best t 0 n m i) :
    Calls Try.prog 12 #[.pointer (some ⟨p, 0, none⟩)] w fun e w' => e = .returned (.tuple #[.int .u64 m, .int .i64 i]) ∧ Below w.heap.size w w' := by
  have n8 := h.rm.n8
  have HBest := Lib.hid hb
  clear hb
  go_enter Try.func12, Try.ntmps12
  go_wp2_with fail
  go_step3
  go_wp2_with fail
  go_step3
  go_wp2_with fail
  refine (bAll h).mono ?_
  rintro e w1 ⟨rfl, rfl⟩
  go_wp2_with fail
  go_loopw [4, 5, 12] (fun a b i wr => ∃ (k : Nat) (M I : Int), k ≤ n ∧ i = .int .i64 k ∧ a = .int .u64 M ∧ b = .int .i64 I ∧ 1 ≤ M ∧ M ≤ 18446744073709551615 ∧ Hid (Best t 0 k M I) ∧ BkAt wr p g n q t ∧ Below w.heap.size w wr) (fun a b i wr => n - (intOf i).toNat)
  case atStart => exact ⟨0, nvr, -1, by omega, rfl, rfl, rfl, by decide, by decide, Lib.hid (best_nil t 0), h, tr0 w⟩
  case round =>
    clear h
    obtain ⟨k, M, I, hk, rfl, rfl, rfl, M0, M1, hX, H, hB⟩ := hrel
    by_cases hlt : k < n
    · have hc := H.get hlt
      have ht := H.rm.tms k hlt
      have ok := H.rm.ok k hlt
      have oks := Lib.hid H.rm.ok
      have HH := Lib.hid H
      have C := nLeftC (t k) (q k) wr ok ht
      have hlb := lef_bounds ok
      unfold nvr at hlb
      clear H
      by_cases hl : M ≤ (t k).lef
      · have HL := Lib.hid hl
        generalize hV : (t k).lef = V at *
        have HV := Lib.hid hV
        clear hV
        go_wp2_with fail
        refine C.mono ?_
        rintro e w2 ⟨rfl, hb⟩
        have H2 := HH.out.below hb
        have hB2 := tr hB hb
        clear HH hc ht hb C
        go_wp2_with fail
        go_roundw
        case rel => exact ⟨k + 1, M, I, by omega, by go_num, rfl, rfl, M0, M1, Lib.hid (hX.out.skip ok (by rw [HV.out]; exact HL.out)), H2, hB2⟩
        case measure => simp [intOf]; omega
      · have HL := Lib.hid (show (t k).lef < M by omega)
        have hl2 : (t k).lef < M := by omega
        clear hl
        have HX2 := Lib.hid (hX.out.take (fun j hj => oks.out j (by omega)) ok hl2)
        generalize (t k).lef = V at *
        go_wp2_with fail
        refine C.mono ?_
        rintro e w2 ⟨rfl, hb⟩
        have H2 := HH.out.below hb
        have hB2 := tr hB hb
        clear HH hc ht hb C
        go_wp2_with fail
        go_roundw
        case rel => exact ⟨k + 1, V, k, by omega, by go_num, rfl, rfl, hlb.1, hlb.2, HX2, H2, hB2⟩
        case measure => simp [intOf]; omega
    · obtain rfl : k = n := by omega
      obtain ⟨e1, e2⟩ := HBest.out.same hX.out
      subst e1 e2
      go_wp2_with fail
      rw [Exit.noGoto_ret]
      go_ret2
      exact ⟨rfl, hB⟩
theorem bLeftNil (w : World) : Calls Try.prog 12 #[.pointer none] w fun e w' => e = .returned (.tuple #[.int .u64 18446744073709551615, .int .i64 (-1)]) ∧ w = w' := by
  go_enter Try.func12, Try.ntmps12
  go_wp2_with fail
  go_step3
  go_wp2_with fail
  go_step3
  go_wp2_with fail
  refine (bAllNil w).mono ?_
  rintro e w1 ⟨rfl, rfl⟩
  go_wp2_with fail
  refine wp_loop_rounds 1 ?_
  rw [rounds_succ]
  go_wp2_with fail
  rw [Exit.noGoto_ret]
  go_ret2
  exact ⟨rfl, rfl⟩
end
end Go.Proofs.Ytijjapmdkalfaaa.B
