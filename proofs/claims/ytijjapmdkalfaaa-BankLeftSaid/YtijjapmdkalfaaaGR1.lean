/- The document's Tick of a row of timers. -/
import Derived.Test.YtijjapmdkalfaaaGR
import Derived.Test.YtijjapmdkalfaaaNR4
import Derived.Deep.Cut
namespace Go.Proofs.Ytijjapmdkalfaaa.B
set_option linter.unusedVariables false
set_option linter.unusedSimpArgs false
open Go.ChangeShapes Go.WideShapes Go.RowKit Go.Sort
theorem gTick {w : World} {g n cap : Nat} {t : Nat → Tm} (h : RwAt w g n cap t) (ok : ∀ i, i < n → (t i).ok) (n0 : 1 ≤ n) (n8 : n ≤ 8) (N : Int) (N0 : 0 ≤ N) (N1 : N < 18446744073709551616) :
    Calls Try.prog 25 #[.slice (some ⟨g, 0, none⟩) n cap, .int .u64 N] w fun e w' => ∃ g' cap', e = .returned (.slice (some ⟨g', 0, none⟩) n cap') ∧ w.heap.size ≤ g' ∧ RwAt w' g' n cap' (fun i => (t i).tick N) ∧ Below w.heap.size w w' := by
  have hcm := h.cm
  have hnc := h.nc
  have hgl := h.lt
  unfold maxLen at hcm
  have OK := Lib.hid ok
  clear ok
  go_enter Try.func25, Try.ntmps25
  go_wp2_with fail
  go_loopw [5, 6] (fun v i wr => ∃ (k : Nat) (V : Value), k ≤ n ∧ i = .int .i64 k ∧ v = V ∧ OutAt wr w.heap.size V k (fun i => (t i).tick N) ∧ RwAt wr g n cap t ∧ Below w.heap.size w wr) (fun v i wr => n - (intOf i).toNat)
  case atStart => exact ⟨0, _, by omega, rfl, rfl, out_nil _ _ _, h, tr0 w⟩
  case round =>
    clear h
    obtain ⟨k, V, hk, rfl, rfl, O, H, hB⟩ := hrel
    by_cases hlt : k < n
    · have hin := H.at hlt
      go_wp2_with (refine loadR rfl (.tmp 16) rfl rfl hin ?_)
      refine (mTick (t k) N wr (OK.out k hlt) N0 N1).mono ?_
      rintro e w1 ⟨rfl, hb⟩
      have O1 := O.below hb
      have H1 := H.below hb
      have B1 := tr hB hb
      clear O H hB hb hin
      have O2 := O1.below (trA (tr0 w1) (oM ((t k).tick N)))
      have H2 := H1.below (trA (tr0 w1) (oM ((t k).tick N)))
      have B2 := trA B1 (oM ((t k).tick N))
      have Y := inNew w1 ((t k).tick N)
      have hBs := B2.size
      clear O1 H1 B1
      go_wp2_with (first
        | (refine buildR rfl (.tmp 19) rfl rfl ?_)
        | (refine appendR rfl (.tmp 13) (.tmp 20) rfl rfl O2 rfl Y rfl (by omega) hBs ?_; intro v' w3 O3 ho3))
      have hown := fun b hb => O2.block (b := b) hb
      have H3 := H2.off ho3 (fun e => by have := hown g e; have := hgl; omega)
      have B3 := Off.toBelow B2 ho3 (fun b hb e => by have := hown b e; omega) (Nat.le_refl _)
      clear O2 H2 B2 Y ho3 hBs hown
      go_wp2_with fail
      go_roundw
      case rel => exact ⟨k + 1, _, by omega, by go_num, rfl, O3, H3, B3⟩
      case measure => simp [intOf]; omega
    · obtain rfl : k = n := by omega
      obtain ⟨g', cap', rfl, hg', R⟩ := O.rw (by omega)
      go_wp2_with fail
      go_ret
      exact ⟨g', cap', rfl, hg', R, hB⟩
end Go.Proofs.Ytijjapmdkalfaaa.B
