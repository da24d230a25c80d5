/- The document's own answers of layer 2 that take registers: the same plain numbers. -/
import Derived.Test.YtfhggmiaablcnaaRCodeT
import Derived.Test.YtfhggmiaablcnaaBBit
import Derived.Deep.QuietTactic
import Derived.BigQuiet
namespace Go.Proofs.Ytfhggmiaablcnaa.B
set_option linter.unusedVariables false
set_option linter.unusedSimpArgs false
open Go.ChangeShapes Go.WideShapes Go.RowKit
theorem rbit (n : Int) (k : Nat) (w : World) (h0 : 0 ≤ n) (h1 : n < 4294967296) (hk : k < 64) :
    Calls Try.prog 57 #[.int .u32 n, .int .i64 k] w fun e w' => e = .returned (.bool (bit n k)) ∧ w = w' := by
  go_enter Try.func57, Try.ntmps57
  go_wp2_with fail
  refine (Bit _ _ _ (by omega) (by omega) (by omega) (by omega)).mono ?_
  rintro e w' ⟨rfl, rfl⟩
  go_wp2_with fail
  go_ret
  exact ⟨rfl, rfl⟩
theorem rAgain (a s r c : Int) (w : World) :
    Calls Try.prog 46 #[.agg #[.int .u32 a, .int .u32 s, .int .u32 r, .int .u32 c]] w
      fun e w' => e = .returned (.agg #[.int .u32 s, .int .u32 s, .int .u32 r, .int .u32 c]) ∧ Below w.heap.size w w' := by
  go_enter Try.func46, Try.ntmps46
  go_wp2
  refine bodyPost_ret (v := .agg #[.int .u32 s, .int .u32 s, .int .u32 r, .int .u32 c]) ?_ rfl ?_
  · simp [results, Try.results46, go_sem]
  · exact ⟨rfl, ((Below.refl _ _).alloc (Nat.le_refl _) _).alloc (by simp) _⟩
theorem rOnly (a s r c : Int) (w : World) :
    Calls Try.prog 33 #[.agg #[.int .u32 a, .int .u32 s, .int .u32 r, .int .u32 c]] w
      fun e w' => e = .returned (.bool (only r c)) ∧ Below w.heap.size w w' := by
  cases h1 : (r == 0)
  all_goals
    cases h2 : (c == 0)
    all_goals
      go_enter Try.func33, Try.ntmps33
      go_wp2
      go_ret
      exact ⟨ret_bool (by unfold only; rw [h1, h2]; rfl), (Below.refl _ _).alloc (Nat.le_refl _) _⟩
set_option maxRecDepth 100000 in
set_option maxHeartbeats 1600000 in
theorem rStore (a s r c v : Int) (w : World) (a0 : 0 ≤ a) (a1 : a < 4294967296) (r0 : 0 ≤ r) (r1 : r < 4294967296) (c0 : 0 ≤ c) (c1 : c < 4294967296) (v0 : 0 ≤ v) (v1 : v < 4294967296) :
    Calls Try.prog 35 #[.agg #[.int .u32 a, .int .u32 s, .int .u32 r, .int .u32 c], .int .u32 v] w
      fun e w' => e = .returned (.agg #[.int .u32 (stV a r c v), .int .u32 s, .int .u32 r, .int .u32 c]) ∧ Below w.heap.size w w' := by
  go_enter Try.func35, Try.ntmps35
  go_wp2_with fail
  go_loop [5, 6, 7] (fun out unit i => ∃ (k : Nat) (x y : Int), k ≤ 32 ∧ i = .int .i64 k ∧ out = .int .u32 x ∧ unit = .int .u32 y ∧ Hid (x = ob (stB a r c v) k) ∧ Hid (y = un k)) (fun _ _ i => 32 - (intOf i).toNat)
  case atStart => exact ⟨0, _, _, by omega, rfl, rfl, rfl, Lib.hid rfl, Lib.hid rfl⟩
  case round =>
    rename_i hw0
    clear hw0
    obtain ⟨k, x, y, hk, rfl, rfl, rfl, hx, hy⟩ := hrel
    have u : 0 ≤ y ∧ y < 4294967296 := by rw [hy.out]; exact un_bounds k
    have o : 0 ≤ x ∧ x < 4294967296 := by rw [hx.out]; exact ob_bounds (stB a r c v) k hk
    obtain ⟨u0, u1⟩ := u
    obtain ⟨o0, o1⟩ := o
    have hu := Lib.hid (un_succ k)
    by_cases hlt : k < 32
    · have ho : x + y < 4294967296 := by rw [hx.out, hy.out]; exact ob_un (stB a r c v) k hlt
      cases hs : stB a r c v k
      all_goals
        first
        | have hn := Lib.hid (ob_yes (stB a r c v) k hlt hs)
        | have hn := Lib.hid (ob_no (stB a r c v) k hs)
        have HS := Lib.hid hs
        clear hs
        cases h1 : bit r k
        all_goals
        cases h2 : bit c k
        all_goals
        cases h3 : bit v k
        all_goals
        cases h4 : bit a k
        all_goals
          first
          | (exfalso; have := HS.out; unfold stB at this; rw [h1, h2, h3, h4] at this; revert this; decide)
          | (go_wp2_with (go_at_call 57; refine (rbit _ _ _ (by omega) (by omega) (by omega)).mono ?_; rintro e w' ⟨rfl, rfl⟩; first | rw [h1] | rw [h2] | rw [h3] | rw [h4])
             go_round
             case rel => exact ⟨k + 1, _, _, by omega, by go_num, rfl, rfl, Lib.hid (by rw [hn.out, hx.out]; try rw [hy.out]), Lib.hid (by rw [hu.out, hy.out])⟩
             case measure => simp [intOf]; omega)
    · have he : x = stV a r c v := by rw [hx.out, show k = 32 by omega]; rfl
      have hE := Lib.hid he
      clear he
      go_wp2_with fail
      refine bodyPost_ret (v := .agg #[.int .u32 (stV a r c v), .int .u32 s, .int .u32 r, .int .u32 c]) ?_ rfl ?_
      · simp [results, Try.results35, go_sem, hE.out]
      · exact ⟨rfl, ((Below.refl _ _).alloc (Nat.le_refl _) _).alloc (by simp) _⟩
set_option maxRecDepth 100000 in
set_option maxHeartbeats 1600000 in
theorem rTurn (a s r c v u : Int) (w : World) (a0 : 0 ≤ a) (a1 : a < 4294967296) (v0 : 0 ≤ v) (v1 : v < 4294967296) (x0 : 0 ≤ u) (x1 : u < 4294967296) :
    Calls Try.prog 40 #[.agg #[.int .u32 a, .int .u32 s, .int .u32 r, .int .u32 c], .int .u32 v, .int .u32 u] w
      fun e w' => e = .returned (.agg #[.int .u32 (tnV a v u), .int .u32 s, .int .u32 r, .int .u32 c]) ∧ Below w.heap.size w w' := by
  go_enter Try.func40, Try.ntmps40
  go_wp2_with fail
  go_loop [7, 8, 9] (fun out unit i => ∃ (k : Nat) (x y : Int), k ≤ 32 ∧ i = .int .i64 k ∧ out = .int .u32 x ∧ unit = .int .u32 y ∧ Hid (x = ob (tnB a v u) k) ∧ Hid (y = un k)) (fun _ _ i => 32 - (intOf i).toNat)
  case atStart => exact ⟨0, _, _, by omega, rfl, rfl, rfl, Lib.hid rfl, Lib.hid rfl⟩
  case round =>
    rename_i hw0
    clear hw0
    obtain ⟨k, x, y, hk, rfl, rfl, rfl, hx, hy⟩ := hrel
    have hub : 0 ≤ y ∧ y < 4294967296 := by rw [hy.out]; exact un_bounds k
    have o : 0 ≤ x ∧ x < 4294967296 := by rw [hx.out]; exact ob_bounds (tnB a v u) k hk
    obtain ⟨u0, u1⟩ := hub
    obtain ⟨o0, o1⟩ := o
    have hu := Lib.hid (un_succ k)
    by_cases hlt : k < 32
    · have ho : x + y < 4294967296 := by rw [hx.out, hy.out]; exact ob_un (tnB a v u) k hlt
      cases hs : tnB a v u k
      all_goals
        first
        | have hn := Lib.hid (ob_yes (tnB a v u) k hlt hs)
        | have hn := Lib.hid (ob_no (tnB a v u) k hs)
        have HS := Lib.hid hs
        clear hs
        cases h1 : bit a k
        all_goals
        cases h2 : bit v k
        all_goals
        cases h3 : bit u k
        all_goals
          first
          | (exfalso; have := HS.out; unfold tnB at this; rw [h1, h2, h3] at this; revert this; decide)
          | (go_wp2_with (go_at_call 57; refine (rbit _ _ _ (by omega) (by omega) (by omega)).mono ?_; rintro e w' ⟨rfl, rfl⟩; first | rw [h1] | rw [h2] | rw [h3])
             go_round
             case rel => exact ⟨k + 1, _, _, by omega, by go_num, rfl, rfl, Lib.hid (by rw [hn.out, hx.out]; try rw [hy.out]), Lib.hid (by rw [hu.out, hy.out])⟩
             case measure => simp [intOf]; omega)
    · have he : x = tnV a v u := by rw [hx.out, show k = 32 by omega]; rfl
      have hE := Lib.hid he
      clear he
      go_wp2_with fail
      refine bodyPost_ret (v := .agg #[.int .u32 (tnV a v u), .int .u32 s, .int .u32 r, .int .u32 c]) ?_ rfl ?_
      · simp [results, Try.results40, go_sem, hE.out]
      · exact ⟨rfl, ((Below.refl _ _).alloc (Nat.le_refl _) _).alloc (by simp) _⟩
end Go.Proofs.Ytfhggmiaablcnaa.B
