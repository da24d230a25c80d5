/- The document's Left of a row of timers. -/
import Derived.Test.YtijjapmdkalfaaaGR
import Derived.Test.YtijjapmdkalfaaaNR4
import Derived.Deep.Cut
namespace Go.Proofs.Ytijjapmdkalfaaa.B
set_option linter.unusedVariables false
set_option linter.unusedSimpArgs false
open Go.ChangeShapes Go.WideShapes Go.RowKit Go.Sort
set_option maxHeartbeats 1600000 in
theorem gLeft {w : World} {g n cap : Nat} {t : Nat → Tm} (h : RwAt w g n cap t) (ok : ∀ i, i < n → (t i).ok) (n8 : n ≤ 8) (m i : Int) (hb : Best t 0 n m i) :
    Calls Try.prog 29 #[.slice (some ⟨g, 0, none⟩) n cap] w fun e w' => e = .returned (.tuple #[.int .u64 m, .int .i64 i]) ∧ Below w.heap.size w w' := by
  have hcm := h.cm
  have hnc := h.nc
  have hgl := h.lt
  unfold maxLen at hcm
  have OK := Lib.hid ok
  have HBest := Lib.hid hb
  clear ok hb
  go_enter Try.func29, Try.ntmps29
  go_wp2_with fail
  go_loopw [4, 5, 6] (fun a b i wr => ∃ (k : Nat) (M I : Int), k ≤ n ∧ (k = 0 ∧ i = .int .i64 (-1) ∨ ∃ j : Nat, k = j + 1 ∧ i = .int .i64 j) ∧ a = .int .u64 M ∧ b = .int .i64 I ∧ 1 ≤ M ∧ M ≤ 18446744073709551615 ∧ Hid (Best t k n M I) ∧ RwAt wr g n cap t ∧ Below w.heap.size w wr) (fun a b i wr => (intOf i + 1).toNat)
  case atStart =>
    refine ⟨n, nvr, -1, by omega, ?_, rfl, rfl, by decide, by decide, Lib.hid (best_nil t n), h, tr0 w⟩
    by_cases h0 : n = 0
    · exact .inl ⟨h0, int_of (by omega)⟩
    · exact .inr ⟨n - 1, by omega, int_of (by omega)⟩
  case round =>
    clear h
    obtain ⟨k, M, I, hk, hki, rfl, rfl, M0, M1, hX, H, hB⟩ := hrel
    rcases hki with ⟨rfl, rfl⟩ | ⟨j, rfl, rfl⟩
    · obtain ⟨e1, e2⟩ := HBest.out.same hX.out
      subst e1 e2
      go_wp2_with fail
      go_ret2
      exact ⟨rfl, hB⟩
    · have hj : j < n := by omega
      have c2 := H.c hj 2 _ rfl
      have hin := H.at hj
      have ok := OK.out j hj
      have hL := ok.left
      have fin : ∀ M' I' : Int, j ≤ n ∧ (j = 0 ∧ Value.int .i64 ((j : Int) - 1) = .int .i64 (-1) ∨ ∃ i : Nat, j = i + 1 ∧ Value.int .i64 ((j : Int) - 1) = .int .i64 i) := fun _ _ => by
        refine ⟨by omega, ?_⟩
        by_cases h0 : j = 0
        · exact .inl ⟨h0, int_of (by omega)⟩
        · exact .inr ⟨j - 1, by omega, int_of (by omega)⟩
      have FIN := Lib.hid (fin 0 0)
      clear fin
      cases he : (t j).en
      · rw [he] at c2
        have HX := Lib.hid (hX.out.keep ok (fun e => by rw [he] at e; cases e))
        have HH := Lib.hid H
        clear H he hin
        go_wp2_with fail
        go_roundw
        case rel => exact ⟨j, M, I, FIN.out.1, FIN.out.2, rfl, rfl, M0, M1, HX, HH.out, hB⟩
        case measure => simp [intOf]
      · rw [he] at c2
        have hlf : (t j).lef = (t j).left := by unfold Tm.lef; rw [if_pos he]
        have C := fun w => mLeft (t j) w ok
        rw [hlf] at C
        by_cases hl : (t j).left ≤ M
        · have HX := Lib.hid (hX.out.put hj he hl)
          generalize (t j).left = V at *
          have CL := Lib.hid C
          have HH := Lib.hid H
          clear H he C hlf
          go_wp2_with (refine loadRg (.tmp 22) rfl rfl rfl hin ?_)
          refine (CL.out _).mono ?_
          rintro e w1 ⟨rfl, hb⟩
          have hin1 := hin.below hb
          have H1 := HH.out.below hb
          have B1 := tr hB hb
          clear hin HH hB hb c2
          go_wp2_with (refine loadR rfl (.tmp 30) rfl rfl hin1 ?_)
          refine (CL.out _).mono ?_
          rintro e w2 ⟨rfl, hb⟩
          have H2 := H1.below hb
          have B2 := tr B1 hb
          clear hin1 H1 B1 hb
          go_wp2_with fail
          go_roundw
          case rel => exact ⟨j, V, j, FIN.out.1, FIN.out.2, rfl, rfl, hL.1, by omega, HX, H2, B2⟩
          case measure => simp [intOf]
        · have HX := Lib.hid (hX.out.keep ok (fun _ => by omega))
          have hl2 : M < (t j).left := by omega
          generalize (t j).left = V at *
          have CL := Lib.hid C
          have HH := Lib.hid H
          clear H he C hlf
          go_wp2_with (refine loadRg (.tmp 22) rfl rfl rfl hin ?_)
          refine (CL.out _).mono ?_
          rintro e w1 ⟨rfl, hb⟩
          have H2 := HH.out.below hb
          have B2 := tr hB hb
          clear hin HH hB hb c2
          go_wp2_with fail
          go_roundw
          case rel => exact ⟨j, M, I, FIN.out.1, FIN.out.2, rfl, rfl, M0, M1, HX, H2, B2⟩
          case measure => simp [intOf]
end Go.Proofs.Ytijjapmdkalfaaa.B
