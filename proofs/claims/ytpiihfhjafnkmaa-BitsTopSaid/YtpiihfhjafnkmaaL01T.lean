/- The law of the top level. -/
import Derived.Test.YtpiihfhjafnkmaaBKnown
import Derived.OpenShut
import Derived.Deep.RegionWith
namespace Go.Proofs.Ytpiihfhjafnkmaa.B
set_option linter.unusedVariables false
set_option linter.unusedSimpArgs false
open Go.ChangeShapes Go.WideShapes Go.RowKit
theorem tr2 {a b c : World} (h : Below a.heap.size a b) (k : Below b.heap.size b c) : Below a.heap.size a c := h.trans (k.mono h.size)
theorem topB_bounds (a b : Int) : ∀ n, -1 ≤ topB a b n ∧ topB a b n < n := by
  intro n
  induction n with
  | zero => exact ⟨by simp [topB], by simp [topB]⟩
  | succ n ih => rw [topB]; split <;> omega
theorem topB_above (a b : Int) : ∀ n (j : Nat), topB a b n < j → j < n → digr a j = digr b j := by
  intro n
  induction n with
  | zero => intro j _ h; omega
  | succ n ih =>
    intro j h1 h2
    rw [topB] at h1
    by_cases e : digr a n = digr b n
    · rw [if_pos e] at h1
      by_cases ej : j = n
      · rw [ej]; exact e
      · exact ih j h1 (by omega)
    · rw [if_neg e] at h1; omega
theorem topB_differs (a b : Int) : ∀ n, 0 ≤ topB a b n → digr a (topB a b n).toNat ≠ digr b (topB a b n).toNat := by
  intro n
  induction n with
  | zero => intro h; simp [topB] at h
  | succ n ih =>
    rw [topB]
    by_cases e : digr a n = digr b n
    · rw [if_pos e]; exact ih
    · rw [if_neg e]; intro _; rw [Int.toNat_natCast]; exact e
theorem top_bounds (a b : Int) : -1 ≤ top a b ∧ top a b ≤ 8 := by have := topB_bounds a b 9; unfold top; omega
theorem top_neg (a b : Int) (h0 : 0 ≤ a) (h1 : 0 ≤ b) (h : top a b < 0) : a = b :=
  digit_same a b h0 h1 fun j hj => topB_above a b 9 j (by unfold top at h; omega) hj
theorem top_dig (a b : Int) (j : Nat) (h : top a b < j) (hj : j < 8) : dig a j = dig b j := by
  rw [dig_digr a j hj, dig_digr b j hj]; exact topB_above a b 9 j h (by omega)
theorem div_above (a b : Int) : ∀ d k, d + k = 8 → (∀ j, k ≤ j → j < 9 → digr a j = digr b j) → a / pw k = b / pw k := by
  intro d
  induction d with
  | zero =>
    intro k hk h
    obtain rfl : k = 8 := by omega
    have := h 8 (by omega) (by omega)
    unfold digr at this; rwa [if_pos rfl, if_pos rfl] at this
  | succ d ih =>
    intro k hk h
    have i1 := ih (k + 1) (by omega) (fun j h1 h2 => h j (by omega) h2)
    have i2 := h k (by omega) (by omega)
    unfold digr at i2; rw [if_neg (by omega), if_neg (by omega)] at i2
    rw [pw_succ, ← Int.ediv_ediv_of_nonneg (by have := pw_pos k; omega), ← Int.ediv_ediv_of_nonneg (by have := pw_pos k; omega)] at i1
    omega
theorem top_rest (a b : Int) (hab : a ≤ b) (h : top a b = 8) : a / pw 8 < b / pw 8 := by
  have d := topB_differs a b 9 (by unfold top at h; omega)
  unfold top at h
  rw [h] at d
  have d2 : a / pw 8 ≠ b / pw 8 := by
    intro e; apply d; show digr a 8 = digr b 8; unfold digr; rw [if_pos rfl, if_pos rfl]; exact e
  have := Int.ediv_le_ediv (show 0 < pw 8 by have := pw_pos 8; omega) hab
  omega
theorem top_mid (a b : Int) (_h0 : 0 ≤ a) (hab : a ≤ b) (h : 0 ≤ top a b) (h8 : top a b < 8) :
    dig a (top a b) < dig b (top a b) ∧ a < withd a (top a b) (dig b (top a b)) ∧ withd a (top a b) (dig b (top a b)) ≤ b := by
  obtain ⟨k, hk⟩ := Int.eq_ofNat_of_zero_le h
  have d := topB_differs a b 9 h
  rw [show topB a b 9 = top a b from rfl, hk, Int.toNat_natCast] at d
  rw [hk] at h8 ⊢
  have hk8 : k < 8 := by omega
  have e := div_above a b (7 - k) (k + 1) (by omega) (fun j h1 h2 => topB_above a b 9 j (by rw [show topB a b 9 = top a b from rfl, hk]; omega) h2)
  have p := pw_pos k
  have fa : digr a k = a / pw k % 64 := by unfold digr; rw [if_neg (by omega)]
  have fb : digr b k = b / pw k % 64 := by unfold digr; rw [if_neg (by omega)]
  have ea : a / pw (k + 1) = a / pw k / 64 := by rw [pw_succ, Int.ediv_ediv_of_nonneg (by omega)]
  have eb : b / pw (k + 1) = b / pw k / 64 := by rw [pw_succ, Int.ediv_ediv_of_nonneg (by omega)]
  have hle := Int.ediv_le_ediv (show 0 < pw k by omega) hab
  have lt : a / pw k % 64 < b / pw k % 64 := by omega
  have ew : withd a k (dig b k) = b / pw k * pw k := by
    unfold withd
    rw [if_neg (by omega), if_neg (by omega), Int.toNat_natCast, e, eb, dig_digr b k hk8, fb, pw_succ, show b / pw k / 64 * (pw k * 64) = b / pw k / 64 * 64 * pw k from by rw [Int.mul_assoc, Int.mul_comm 64], ← Int.add_mul]
    congr 1; omega
  refine ⟨by rw [dig_digr a k hk8, dig_digr b k hk8, fa, fb]; exact lt, ?_, ?_⟩
  · rw [ew]
    have m := Int.mul_le_mul_of_nonneg_right (show a / pw k + 1 ≤ b / pw k by omega) (show 0 ≤ pw k by omega)
    rw [Int.add_mul, Int.one_mul] at m
    have := Int.lt_ediv_add_one_mul_self a (show 0 < pw k by omega)
    rw [Int.add_mul, Int.one_mul] at this
    omega
  · rw [ew]; exact Int.ediv_mul_le _ (by omega)

set_option maxHeartbeats 800000 in
theorem eightAB (a b : Int) (w : World) (a1 : 0 ≤ a) (a2 : a ≤ 18446744073709551615) (b1 : 0 ≤ b) (b2 : b ≤ 18446744073709551615) (hab : a < b) (eight : top a b = 8) :
    Calls Try.prog 6 #[.int .u64 a, .int .u64 b] w fun e w' => e = .returned (.bool true) ∧ Below w.heap.size w w' := by
  have hr := top_rest a b (by omega) eight
  have p1 := pw_pos 8
  have e8 : 8 ≤ top a b := by omega
  have e7 : top a b ≤ 8 := by omega
  have e9 : (top a b == 8) = true := by simpa using eight
  have q1 : 0 ≤ a / pw 8 := Int.ediv_nonneg (by omega) (by omega)
  have q2 : 0 ≤ b / pw 8 := Int.ediv_nonneg (by omega) (by omega)
  clear eight
  have q3 : IntKind.u64.wrap (a.tdiv (pw 8)) = a / pw 8 := IntWalk.u64_quo _ _ ⟨by omega, by omega, by omega⟩
  have q4 : IntKind.u64.wrap (b.tdiv (pw 8)) = b / pw 8 := IntWalk.u64_quo _ _ ⟨by omega, by omega, by omega⟩
  have q5 : decide (a / pw 8 < b / pw 8) = true := by simpa using hr
  go_enter Try.func6, Try.ntmps6
  go_wp2_with fail
  refine (Top a b _ (by omega) (by omega) (by omega) (by omega)).mono ?_
  rintro e w1 ⟨rfl, hb1⟩
  go_wp2_with fail
  refine wp_loop_rounds 1 ?_; rw [rounds_succ]
  go_wp2_with fail
  go_region_with (first | (go_at_call 9; refine (known _).mono ?_; rintro e w2 ⟨rfl, hb2⟩) | (go_at_call 34; refine (Power8 _).mono ?_; rintro e w2 ⟨rfl, rfl⟩))
  all_goals (go_wp2_with fail; go_ret; exact ⟨rfl, tr2 hb1.drew hb2⟩)
set_option maxHeartbeats 800000 in
theorem eightBA (a b : Int) (w : World) (a1 : 0 ≤ a) (a2 : a ≤ 18446744073709551615) (b1 : 0 ≤ b) (b2 : b ≤ 18446744073709551615) (hab : a < b) (eight : top a b = 8) :
    Calls Try.prog 6 #[.int .u64 b, .int .u64 a] w fun e w' => e = .returned (.bool true) ∧ Below w.heap.size w w' := by
  have hr := top_rest a b (by omega) eight
  have p1 := pw_pos 8
  have e8 : 8 ≤ top a b := by omega
  have e7 : top a b ≤ 8 := by omega
  have e9 : (top a b == 8) = true := by simpa using eight
  have q1 : 0 ≤ a / pw 8 := Int.ediv_nonneg (by omega) (by omega)
  have q2 : 0 ≤ b / pw 8 := Int.ediv_nonneg (by omega) (by omega)
  clear eight
  have q3 : IntKind.u64.wrap (a.tdiv (pw 8)) = a / pw 8 := IntWalk.u64_quo _ _ ⟨by omega, by omega, by omega⟩
  have q4 : IntKind.u64.wrap (b.tdiv (pw 8)) = b / pw 8 := IntWalk.u64_quo _ _ ⟨by omega, by omega, by omega⟩
  have q5 : decide (a / pw 8 < b / pw 8) = true := by simpa using hr
  go_enter Try.func6, Try.ntmps6
  go_wp2_with fail
  refine (Top a b _ (by omega) (by omega) (by omega) (by omega)).mono ?_
  rintro e w1 ⟨rfl, hb1⟩
  go_wp2_with fail
  refine wp_loop_rounds 1 ?_; rw [rounds_succ]
  go_wp2_with fail
  go_region_with (first | (go_at_call 9; refine (known _).mono ?_; rintro e w2 ⟨rfl, hb2⟩) | (go_at_call 34; refine (Power8 _).mono ?_; rintro e w2 ⟨rfl, rfl⟩))
  all_goals (go_wp2_with fail; go_ret; exact ⟨rfl, tr2 hb1.drew hb2⟩)
set_option maxHeartbeats 800000 in
theorem midAB (a b : Int) (w : World) (a1 : 0 ≤ a) (a2 : a ≤ 18446744073709551615) (b1 : 0 ≤ b) (b2 : b ≤ 18446744073709551615) (hab : a < b) (neg : 0 ≤ top a b) (ea : top a b < 8) :
    Calls Try.prog 6 #[.int .u64 a, .int .u64 b] w fun e w' => e = .returned (.bool true) ∧ Below w.heap.size w w' := by
  have hdg := Lib.hid (fun j => top_dig a b j)
  obtain ⟨m1, m2, m3⟩ := top_mid a b (by omega) (by omega) (by omega) (by omega)
  have e9 : (top a b == 8) = false := by simp; omega
  go_enter Try.func6, Try.ntmps6
  go_wp2_with fail
  refine (Top a b _ (by omega) (by omega) (by omega) (by omega)).mono ?_
  rintro e w1 ⟨rfl, hb1⟩
  go_wp2_with fail
  go_loop [6] (fun i => ∃ j : Nat, i = .int .i64 j ∧ top a b < j ∧ j ≤ 8) (fun i => 8 - (intOf i).toNat)
  case atStart => exact ⟨(top a b + 1).toNat, by rw [Int.toNat_of_nonneg (by omega)], by omega, by omega⟩
  case round =>
    obtain ⟨j, rfl, j1, j2⟩ := hrel
    by_cases j3 : j < 8
    · have jd : (dig a j != dig b j) = false := by simpa using hdg.out j j1 j3
      go_wp2_with (go_at_call 22; refine (Digit _ _ _ (by omega) (by omega) (by omega) (by omega)).mono ?_; rintro e w' ⟨rfl, rfl⟩)
      go_round
      case rel => exact ⟨j + 1, by go_num, by omega, by omega⟩
      case measure => simp [intOf]; omega
    · clear hdg
      have g1 := dig_nonneg b (top a b)
      have g2 := dig_lt b (top a b)
      go_wp2_with fail
      refine (Digit b _ _ (by omega) (by omega) (by omega) (by omega)).mono ?_
      rintro e w' ⟨rfl, rfl⟩
      go_wp2_with fail
      refine (With a _ _ _ (by omega) (by omega) (by omega) (by omega) (by omega) (by omega)).mono ?_
      rintro e w' ⟨rfl, rfl⟩
      go_wp2_with fail
      refine (known _).mono ?_
      rintro e w2 ⟨rfl, hb2⟩
      go_wp2_with fail
      refine (Digit a _ _ (by omega) (by omega) (by omega) (by omega)).mono ?_
      rintro e w' ⟨rfl, rfl⟩
      go_wp2_with fail
      refine (Digit b _ _ (by omega) (by omega) (by omega) (by omega)).mono ?_
      rintro e w' ⟨rfl, rfl⟩
      go_wp2_with fail
      go_ret
      exact ⟨rfl, tr2 hb1 hb2⟩
set_option maxHeartbeats 800000 in
theorem midBA (a b : Int) (w : World) (a1 : 0 ≤ a) (a2 : a ≤ 18446744073709551615) (b1 : 0 ≤ b) (b2 : b ≤ 18446744073709551615) (hab : a < b) (neg : 0 ≤ top a b) (ea : top a b < 8) :
    Calls Try.prog 6 #[.int .u64 b, .int .u64 a] w fun e w' => e = .returned (.bool true) ∧ Below w.heap.size w w' := by
  have hdg := Lib.hid (fun j => top_dig a b j)
  obtain ⟨m1, m2, m3⟩ := top_mid a b (by omega) (by omega) (by omega) (by omega)
  have e9 : (top a b == 8) = false := by simp; omega
  go_enter Try.func6, Try.ntmps6
  go_wp2_with fail
  refine (Top a b _ (by omega) (by omega) (by omega) (by omega)).mono ?_
  rintro e w1 ⟨rfl, hb1⟩
  go_wp2_with fail
  go_loop [6] (fun i => ∃ j : Nat, i = .int .i64 j ∧ top a b < j ∧ j ≤ 8) (fun i => 8 - (intOf i).toNat)
  case atStart => exact ⟨(top a b + 1).toNat, by rw [Int.toNat_of_nonneg (by omega)], by omega, by omega⟩
  case round =>
    obtain ⟨j, rfl, j1, j2⟩ := hrel
    by_cases j3 : j < 8
    · have jd : (dig a j != dig b j) = false := by simpa using hdg.out j j1 j3
      go_wp2_with (go_at_call 22; refine (Digit _ _ _ (by omega) (by omega) (by omega) (by omega)).mono ?_; rintro e w' ⟨rfl, rfl⟩)
      go_round
      case rel => exact ⟨j + 1, by go_num, by omega, by omega⟩
      case measure => simp [intOf]; omega
    · clear hdg
      have g1 := dig_nonneg b (top a b)
      have g2 := dig_lt b (top a b)
      go_wp2_with fail
      refine (Digit b _ _ (by omega) (by omega) (by omega) (by omega)).mono ?_
      rintro e w' ⟨rfl, rfl⟩
      go_wp2_with fail
      refine (With a _ _ _ (by omega) (by omega) (by omega) (by omega) (by omega) (by omega)).mono ?_
      rintro e w' ⟨rfl, rfl⟩
      go_wp2_with fail
      refine (known _).mono ?_
      rintro e w2 ⟨rfl, hb2⟩
      go_wp2_with fail
      refine (Digit a _ _ (by omega) (by omega) (by omega) (by omega)).mono ?_
      rintro e w' ⟨rfl, rfl⟩
      go_wp2_with fail
      refine (Digit b _ _ (by omega) (by omega) (by omega) (by omega)).mono ?_
      rintro e w' ⟨rfl, rfl⟩
      go_wp2_with fail
      go_ret
      exact ⟨rfl, tr2 hb1 hb2⟩
theorem wBitsTop (a b : Int) (ha : (Lit.int .u64 a).wf = true) (hb : (Lit.int .u64 b).wf = true) (w : World) :
    Calls Try.prog 6 #[.int .u64 a, .int .u64 b] w fun e w' => e = .returned (.bool true) ∧ Below w.heap.size w w' := by
  obtain ⟨a1, a2⟩ := bounds_u64 ha
  obtain ⟨b1, b2⟩ := bounds_u64 hb
  clear ha hb
  by_cases hab : a < b
  · obtain ⟨t1, t2⟩ := top_bounds a b
    by_cases neg : top a b < 0
    · have := top_neg a b a1 b1 neg; omega
    · by_cases e : top a b = 8
      · exact eightAB a b w a1 a2 b1 b2 hab e
      · exact midAB a b w a1 a2 b1 b2 hab (by omega) (by omega)
  by_cases hba : b < a
  · obtain ⟨t1, t2⟩ := top_bounds b a
    by_cases neg : top b a < 0
    · have := top_neg b a b1 a1 neg; omega
    · by_cases e : top b a = 8
      · exact eightBA b a w b1 b2 a1 a2 hba e
      · exact midBA b a w b1 b2 a1 a2 hba (by omega) (by omega)
  · obtain rfl : a = b := by omega
    have hs := Lib.hid (top_same a)
    have hs2 : top a a < 0 := by rw [hs.out]; omega
    go_enter Try.func6, Try.ntmps6
    go_wp2_with fail
    refine (Top a a _ (by omega) (by omega) (by omega) (by omega)).mono ?_
    rintro e w1 ⟨rfl, hb1⟩
    go_wp2_with fail
    refine (known _).mono ?_
    rintro e w2 ⟨rfl, hb2⟩
    go_wp2_with fail
    go_ret
    exact ⟨rfl, tr2 hb1 hb2⟩
end Go.Proofs.Ytpiihfhjafnkmaa.B
