/- The chapter's example of layer 3. -/
import Derived.Test.YtjfnhnbimcbjmaaBAtt
import Derived.Test.YtjfnhnbimcbjmaaBusL
namespace Go.Proofs.Ytjfnhnbimcbjmaa.B
set_option linter.unusedVariables false
set_option linter.unusedSimpArgs false
open Go.ChangeShapes Go.WideShapes Go.RowKit Go.Sort Go.Shelf
/-- Of blocks that are all new nothing old has turned. -/
theorem off_new {S : Nat → Prop} {B : Nat} {a b : World} (h : Off S a b) (hB : ∀ k, S k → B ≤ k) (hs : B ≤ a.heap.size) : Below B a b := h.below (fun k hk hS => by have := hB k hS; omega) hs
set_option maxRecDepth 100000 in
set_option maxHeartbeats 2000000 in
theorem zknown (w : World) :
    Calls Try.prog 8 #[] w fun e w' => e = .returned (.bool true) ∧ Below w.heap.size w w' := by
  go_enter Try.func8, Try.ntmps8
  go_wp2_with fail
  refine (zNew _).mono ?_
  rintro e w1 ⟨rfl, hB1, hb1⟩
  go_wp2_with fail
  refine (fNew _).mono ?_
  rintro e w2 ⟨rfl, hF2, hb2⟩
  have hB2 := hB1.ofBelow hb2
  have hs1 := hB1.ltp
  have hs2 := hF2.ltf
  have hs0 := hb2.size
  have hbw2 := tr hb1 hb2
  have hbb : ∀ k, busBlocks (w.heap.size + 1) w.heap.size (.slice none 0 0) (.slice none 0 0) k → w.heap.size ≤ k ∧ k < w1.heap.size := fun k hk => by
    have := hB1.lt k hk
    rcases hk with h | h | h | h
    · omega
    · omega
    · cases h
    · cases h
  clear hb1 hb2 hB1
  go_wp2_with fail
  refine (zAttach (w.heap.size + 1) w.heap.size (.slice none 0 0) (.slice none 0 0) [] [] 256 16 (w1.heap.size + 1) _ hB2 (by simp) rfl ⟨by simp, by simp, by simp⟩ (fun _ h => by cases h) rfl (by decide) (by decide)).mono ?_
  rintro e w3 ⟨rfl, rv, sv, R, hB3, hp3, hs3, ho3, hk3⟩
  have hF3 := hF2.off ho3 (fun h => by have := hbb _ h; omega) (fun h => by have := hbb _ h; omega)
  have hbw3 := hbw2.trans (off_new ho3 (fun k h => (hbb k h).1) hbw2.size)
  have hkb : ∀ k, busBlocks (w.heap.size + 1) w.heap.size rv sv k → k ≠ w1.heap.size ∧ k ≠ w1.heap.size + 1 := fun k hk => by
    rcases hk3 k hk with h | h
    · have := hbb k h; omega
    · omega
  clear hbw2 hp3 hs3 ho3 hk3 hF2 hB2
  go_wp2_with fail
  refine (fDefine 4 ⟨7, 0, 0, 0⟩ (w1.heap.size + 1) w1.heap.size [] _ ⟨by simp, by simp, by simp, by simp⟩ (by omega) (by omega) (by decide) hF3 (fun _ h => by cases h)).mono ?_
  rintro e w4 ⟨rfl, hF4, ho4⟩
  have hB4 := hB3.ofOff ho4 (fun k hk h => (hkb k hk).1 h)
  have hbw4 := hbw3.trans (off_new ho4 (B := w.heap.size) (fun k h => by subst h; omega) hbw3.size)
  clear hbw3 ho4 hF3 hB3
  have f1 : findL 260 [⟨256, 16, w1.heap.size + 1⟩] = (.agg #[.int .u32 256, .int .u32 16, .iface 38 (.pointer (some ⟨w1.heap.size + 1, 0, none⟩))], 0) := rfl
  have f2 : findL 272 [⟨256, 16, w1.heap.size + 1⟩] = (zeroSeatV, 10) := rfl
  have HF1 := Lib.hid f1
  have HF2 := Lib.hid f2
  clear f1 f2
  go_wp2_with fail
  refine (zLoad _ _ rv sv R _ 260 256 16 (w1.heap.size + 1) w1.heap.size _ ⟨7, 0, 0, 0⟩ _ (by omega) (by omega) (by decide) hB4 HF1.out (by omega) (by omega) hF4 (by simp) (by decide) (by omega) (by omega)).mono ?_
  rintro e w5 ⟨rfl, hb5⟩
  have hB5 := hB4.ofBelow hb5
  have hbw5 := tr hbw4 hb5
  clear hb5 hbw4 hB4 hF4
  go_wp2_with fail
  refine (zFindX _ _ rv sv R _ 260 256 16 (w1.heap.size + 1) _ (by omega) (by omega) (by decide) hB5 HF1.out (by omega) (by omega)).mono ?_
  rintro e w6 ⟨rfl, hb6⟩
  have hB6 := hB5.ofBelow hb6
  have hbw6 := tr hbw5 hb6
  clear hb6 hbw5 hB5
  go_wp2_with fail
  refine (zLoadErr _ 272 10 _ (by decide) (fun w' hw' => zFind 272 _ _ _ _ rv sv R _ w' (by omega) (by omega) (by decide) ((hB6.ofBelow (trA (tr0 w6) _)).ofBelow hw') HF2.out)).mono ?_
  rintro e w7 ⟨rfl, hb7⟩
  have hbw7 := tr (trA hbw6 _) hb7
  clear hb7 hbw6
  go_wp2_with fail
  refine (zLoadErr _ 258 11 _ (by decide) (fun w' hw' => zFindBad 258 _ w' (by omega) (by decide))).mono ?_
  rintro e w8 ⟨rfl, hb8⟩
  have hbw8 := tr hbw7 hb8
  clear hb8 hbw7
  go_wp2_with fail
  go_ret
  exact ⟨rfl, hbw8⟩
end Go.Proofs.Ytjfnhnbimcbjmaa.B
