/- The four laws of layer 1: each returns true, and writes nothing that was there. -/
import Derived.Test.YtpiihfhjafnkmaaBKnown
import Derived.Test.YtpiihfhjafnkmaaBPlain2
import Derived.OpenShut
namespace Go.Proofs.Ytpiihfhjafnkmaa.B
set_option linter.unusedVariables false
set_option linter.unusedSimpArgs false
open Go.ChangeShapes Go.WideShapes Go.RowKit
theorem tr {a b c : World} (h : Below a.heap.size a b) (k : Below b.heap.size b c) : Below a.heap.size a c := h.trans (k.mono h.size)
theorem trN {a b : World} (h : Below a.heap.size a b) (n : Nat) : Below a.heap.size a (b.drewN n) := below_drewN h n
theorem self_eq (x : Int) : (x == x) = true := beq_self_eq_true x
theorem wBitsHalves (a b n : Int) (ha : (Lit.int .u64 a).wf = true) (hb : (Lit.int .u64 b).wf = true) (hn : (Lit.int .i64 n).wf = true) (w : World) :
    Calls Try.prog 3 #[.int .u64 a, .int .u64 b, .int .i64 n] w fun e w' => e = .returned (.bool true) ∧ Below w.heap.size w w' := by
  have a1 := bounds_u64 ha
  have b1 := bounds_u64 hb
  have n1 := bounds_i64 hn
  clear ha hb hn
  have l1 := lo_nonneg a
  have l2 := lo_lt a
  have l3 := hi_nonneg a1.1
  have l4 := hi_lt (show a < 18446744073709551616 by omega)
  have j : (join (hi a) (lo a) == a) = true := by rw [join_hi_lo]; exact self_eq a
  obtain ⟨a1, a2⟩ := a1
  obtain ⟨b1, b2⟩ := b1
  obtain ⟨n1, n2⟩ := n1
  go_enter Try.func3, Try.ntmps3
  go_wp2_with (first
    | (go_at_call 7; refine (Lo _ _ (by omega) (by omega)).mono ?_; rintro e w' ⟨rfl, rfl⟩)
    | (go_at_call 8; refine (Hi _ _ (by omega) (by omega)).mono ?_; rintro e w' ⟨rfl, rfl⟩)
    | (go_at_call 10; refine (rLo _ _ (by omega) (by omega)).mono ?_; rintro e w' ⟨rfl, rfl⟩)
    | (go_at_call 11; refine (rHi _ _ (by omega) (by omega)).mono ?_; rintro e w' ⟨rfl, rfl⟩)
    | (go_at_call 12; refine (Join _ _ _ (by omega) (by omega) (by omega) (by omega)).mono ?_; rintro e w' ⟨rfl, rfl⟩)
    | (go_at_call 13; refine (rJoin _ _ _ (by omega) (by omega) (by omega) (by omega)).mono ?_; rintro e w' ⟨rfl, rfl⟩)
    | (go_at_call 14; refine (Add _ _ _ (by omega) (by omega) (by omega) (by omega)).mono ?_; rintro e w' ⟨rfl, rfl⟩)
    | (go_at_call 15; refine (rAdd _ _ _ (by omega) (by omega) (by omega) (by omega)).mono ?_; rintro e w' ⟨rfl, rfl⟩)
    | (go_at_call 16; refine (Sub _ _ _ (by omega) (by omega) (by omega) (by omega)).mono ?_; rintro e w' ⟨rfl, rfl⟩)
    | (go_at_call 17; refine (rSub _ _ _ (by omega) (by omega) (by omega) (by omega)).mono ?_; rintro e w' ⟨rfl, rfl⟩)
    | (go_at_call 18; refine (Mask _ _ (by omega) (by omega)).mono ?_; rintro e w' ⟨rfl, rfl⟩)
    | (go_at_call 19; refine (rMask _ _ (by omega) (by omega)).mono ?_; rintro e w' ⟨rfl, rfl⟩)
    | (go_at_call 20; refine (Signed _ _ (by omega) (by omega)).mono ?_; rintro e w' ⟨rfl, rfl⟩)
    | (go_at_call 21; refine (rSigned _ _ (by omega) (by omega)).mono ?_; rintro e w' ⟨rfl, rfl⟩)
    | (go_at_call 9; refine (known _).mono ?_; rintro e w1 ⟨rfl, hb1⟩))
  go_ret
  exact ⟨rfl, hb1⟩
theorem topB_comm (a b : Int) : ∀ n, topB a b n = topB b a n := by
  intro n
  induction n with
  | zero => rfl
  | succ n ih =>
    rw [topB, topB, ih]
    by_cases h : digr a n = digr b n
    · rw [if_pos h, if_pos h.symm]
    · rw [if_neg h, if_neg (fun e => h e.symm)]
theorem wBitsDigits (a b l d : Int) (ha : (Lit.int .u64 a).wf = true) (hb : (Lit.int .u64 b).wf = true) (hl : (Lit.int .i64 l).wf = true) (hd : (Lit.int .i64 d).wf = true) (w : World) :
    Calls Try.prog 4 #[.int .u64 a, .int .u64 b, .int .i64 l, .int .i64 d] w fun e w' => e = .returned (.bool true) ∧ Below w.heap.size w w' := by
  have a1 := bounds_u64 ha
  have b1 := bounds_u64 hb
  have l1 := bounds_i64 hl
  have d1 := bounds_i64 hd
  clear ha hb hl hd
  have j : (top b a == top a b) = true := by rw [show top b a = top a b from topB_comm b a 9]; exact self_eq _
  obtain ⟨a1, a2⟩ := a1
  obtain ⟨b1, b2⟩ := b1
  obtain ⟨l1, l2⟩ := l1
  obtain ⟨d1, d2⟩ := d1
  go_enter Try.func4, Try.ntmps4
  go_wp2_with fail
  refine (known _).mono ?_
  rintro e w1 ⟨rfl, hb1⟩
  go_wp2_with (first
    | (go_at_call 22; refine (Digit _ _ _ (by omega) (by omega) (by omega) (by omega)).mono ?_; rintro e w' ⟨rfl, rfl⟩)
    | (go_at_call 23; refine (rDigit _ _ _ (by omega) (by omega) (by omega) (by omega)).mono ?_; rintro e w' ⟨rfl, rfl⟩)
    | (go_at_call 24; refine (With _ _ _ _ (by omega) (by omega) (by omega) (by omega) (by omega) (by omega)).mono ?_; rintro e w' ⟨rfl, rfl⟩)
    | (go_at_call 25; refine (rWith _ _ _ _ (by omega) (by omega) (by omega) (by omega) (by omega) (by omega)).mono ?_; rintro e w' ⟨rfl, rfl⟩))
  refine (Top a b _ (by omega) (by omega) (by omega) (by omega)).mono ?_
  rintro e w2 ⟨rfl, hb2⟩
  go_wp2_with fail
  refine (rTop a b _ (by omega) (by omega) (by omega) (by omega)).mono ?_
  rintro e w3 ⟨rfl, n3, rfl⟩
  go_wp2_with fail
  refine (Top b a _ (by omega) (by omega) (by omega) (by omega)).mono ?_
  rintro e w4 ⟨rfl, hb4⟩
  go_wp2_with fail
  refine (rTop a b _ (by omega) (by omega) (by omega) (by omega)).mono ?_
  rintro e w5 ⟨rfl, n5, rfl⟩
  go_wp2_with fail
  go_ret
  exact ⟨rfl, trN (tr (trN (tr hb1 hb2) n3) hb4) n5⟩
theorem wBitsFields (x f n v l d : Int) (hx : (Lit.int .u64 x).wf = true) (hf : (Lit.int .i64 f).wf = true) (hn : (Lit.int .u32 n).wf = true) (hv : (Lit.int .u32 v).wf = true) (hl : (Lit.int .i64 l).wf = true) (hd : (Lit.int .i64 d).wf = true) (w : World) :
    Calls Try.prog 5 #[.int .u64 x, .int .i64 f, .int .u32 n, .int .u32 v, .int .i64 l, .int .i64 d] w fun e w' => e = .returned (.bool true) ∧ Below w.heap.size w w' := by
  have x1 := bounds_u64 hx
  have f1 := bounds_i64 hf
  have n1 := bounds_u32 hn
  have v1 := bounds_u32 hv
  have l1 := bounds_i64 hl
  have d1 := bounds_i64 hd
  clear hx hf hn hv hl hd
  obtain ⟨x1, x2⟩ := x1
  obtain ⟨f1, f2⟩ := f1
  obtain ⟨n1, n2⟩ := n1
  obtain ⟨v1, v2⟩ := v1
  obtain ⟨l1, l2⟩ := l1
  obtain ⟨d1, d2⟩ := d1
  obtain ⟨p1, p2⟩ := put_bounds n l d v n1 (by omega)
  obtain ⟨q1, q2⟩ := field_bounds n l d n1 (by omega)
  have j : (put (put n l d v) l d (field n l d) == n) = true := by rw [put_back n l d v n1 (by omega)]; exact self_eq n
  go_enter Try.func5, Try.ntmps5
  go_wp2_with fail
  refine (Put n l d v _ (by omega) (by omega) (by omega) (by omega) (by omega) (by omega)).mono ?_
  rintro e w' ⟨rfl, rfl⟩
  go_wp2_with fail
  refine (known _).mono ?_
  rintro e w1 ⟨rfl, hb1⟩
  go_wp2_with fail
  refine (First x f _ (by omega) (by omega) (by omega) (by omega)).mono ?_
  rintro e w2 ⟨rfl, hb2⟩
  go_wp2_with fail
  refine (rFirst x f _ (by omega) (by omega) (by omega) (by omega)).mono ?_
  rintro e w' ⟨rfl, rfl⟩
  go_wp2_with fail
  refine (Field n l d _ (by omega) (by omega) (by omega) (by omega)).mono ?_
  rintro e w' ⟨rfl, n3, rfl⟩
  go_wp2_with fail
  refine (rField n l d _ (by omega) (by omega) (by omega) (by omega) (by omega) (by omega)).mono ?_
  rintro e w' ⟨rfl, rfl⟩
  go_wp2_with fail
  refine (rPut n l d v _ (by omega) (by omega) (by omega) (by omega) (by omega) (by omega) (by omega) (by omega)).mono ?_
  rintro e w' ⟨rfl, rfl⟩
  go_wp2_with fail
  refine (Field n l d _ (by omega) (by omega) (by omega) (by omega)).mono ?_
  rintro e w' ⟨rfl, n4, rfl⟩
  go_wp2_with fail
  refine (Put (put n l d v) l d (field n l d) _ (by omega) (by omega) (by omega) (by omega) (by omega) (by omega)).mono ?_
  rintro e w' ⟨rfl, rfl⟩
  go_wp2_with fail
  go_ret
  exact ⟨rfl, trN (tr hb1 hb2) (n3 + n4)⟩
end Go.Proofs.Ytpiihfhjafnkmaa.B
