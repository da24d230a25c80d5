/- Several texts in one: The top level of two numbers. Layer 18, its own code in plain numbers: a level as the greatest that differs; the bounds of .. -/
import Derived.Test.YtappnidimnhndaaZAaa
import Derived.Test.YtappnidimnhndaaZAO
import Derived.Laws.StructEq
import Derived.ChangeKeysEq
import Derived.Deep.QuietTactic
import Derived.BigQuiet
import Derived.Laws.Rows
import Derived.Laws.CopyRow
import Derived.Deep.Quiet
import Derived.Lib.QuietBelow
import Derived.StillTail
import Derived.Deep.Cut
namespace Go.Proofs.Ytappnidimnhndaa.B
set_option linter.unusedVariables false
set_option linter.unusedSimpArgs false
open Go.ChangeShapes Go.WideShapes Go.RowKit
@[go_sem] theorem eqParts (x0 x1 x2 x3 x4 x5 x6 x7 x8 y0 y1 y2 y3 y4 y5 y6 y7 y8 : Int) (w : World) :
 (Op.equalIn 10000 46 (.agg #[.int .u64 x0, .int .u64 x1, .int .u64 x2, .int .u64 x3, .int .u64 x4, .int .u64 x5, .int .u64 x6, .int .u64 x7, .int .u64 x8])
   (.agg #[.int .u64 y0, .int .u64 y1, .int .u64 y2, .int .u64 y3, .int .u64 y4, .int .u64 y5, .int .u64 y6, .int .u64 y7, .int .u64 y8])).run Try.prog w = .ok (eqs [x0, x1, x2, x3, x4, x5, x6, x7, x8] [y0, y1, y2, y3, y4, y5, y6, y7, y8]) w := by
 have hi : (Try.prog.info? 22).isSome = true := by kernel_rfl
 obtain ⟨i, hi⟩ := Option.isSome_iff_exists.1 hi
 have hc : Try.prog.cellsOf 22 = 1 := by kernel_rfl
 have h := run_equalIn_array w 9999 (i := i) #[.int .u64 x0, .int .u64 x1, .int .u64 x2, .int .u64 x3, .int .u64 x4, .int .u64 x5, .int .u64 x6, .int .u64 x7, .int .u64 x8] #[.int .u64 y0, .int .u64 y1, .int .u64 y2, .int .u64 y3, .int .u64 y4, .int .u64 y5, .int .u64 y6, .int .u64 y7, .int .u64 y8] Try.underlying46 hi
 rw [hc] at h
 have g := eqItems_ints 9998 22 .u64 Try.underlying22 [x0, x1, x2, x3, x4, x5, x6, x7, x8] [y0, y1, y2, y3, y4, y5, y6, y7, y8] w (List.range 9) (by intro i hi; simpa using hi)
 have r := all_range [x0, x1, x2, x3, x4, x5, x6, x7, x8] [y0, y1, y2, y3, y4, y5, y6, y7, y8] rfl
 exact (h.trans g).trans (congrArg (fun b => Result.ok b w) r)
theorem topB_at (a b : Int) (k : Nat) (h' : k = 0 ∨ digr a (k - 1) ≠ digr b (k - 1)) : ∀ n, k ≤ n → (∀ j, k ≤ j → j < n → digr a j = digr b j) → topB a b n = (k : Int) - 1 := by
 intro n
 induction n with
 | zero =>
   intro hk _
   obtain rfl : k = 0 := by omega
   rfl
 | succ n ih =>
   intro hk h
   by_cases e : k = n + 1
   · subst e
     rcases h' with h' | h'
     · omega
     · rw [topB, if_neg (by simpa using h')]; omega
   · rw [topB, if_pos (h n (by omega) (by omega))]
     exact ih (by omega) (fun j h1 h2 => h j h1 (by omega))
def cut (n : Int) (k : Nat) : List Int :=
 [if 0 < k then 0 else dig n 0, if 1 < k then 0 else dig n 1, if 2 < k then 0 else dig n 2, if 3 < k then 0 else dig n 3, if 4 < k then 0 else dig n 4,
  if 5 < k then 0 else dig n 5, if 6 < k then 0 else dig n 6, if 7 < k then 0 else dig n 7, if 8 < k then 0 else n / 281474976710656]
theorem digs (n : Int) : dig n 0 = digr n 0 ∧ dig n 1 = digr n 1 ∧ dig n 2 = digr n 2 ∧ dig n 3 = digr n 3 ∧ dig n 4 = digr n 4 ∧ dig n 5 = digr n 5 ∧ dig n 6 = digr n 6 ∧ dig n 7 = digr n 7 ∧ n / 281474976710656 = digr n 8 :=
 ⟨dig_digr n 0 (by omega), dig_digr n 1 (by omega), dig_digr n 2 (by omega), dig_digr n 3 (by omega), dig_digr n 4 (by omega), dig_digr n 5 (by omega), dig_digr n 6 (by omega), dig_digr n 7 (by omega), by unfold digr; rw [if_pos rfl, pw8]⟩
theorem cut_eq (n : Int) (k : Nat) : cut n k = (List.range 9).map fun j => if j < k then 0 else digr n j := by
 obtain ⟨a0, a1, a2, a3, a4, a5, a6, a7, a8⟩ := digs n
 unfold cut; rw [a0, a1, a2, a3, a4, a5, a6, a7, a8]; rfl
theorem eqs_cut (a b : Int) (k : Nat) : eqs (cut a k) (cut b k) = true ↔ ∀ j, k ≤ j → j < 9 → digr a j = digr b j := by
 unfold eqs
 rw [beq_iff_eq, cut_eq, cut_eq, List.map_inj_left]
 constructor
 · intro h j h1 h2
   have := h j (by simpa using h2)
   rwa [if_neg (by omega), if_neg (by omega)] at this
 · intro h j hj
   by_cases e : j < k
   · rw [if_pos e, if_pos e]
   · rw [if_neg e, if_neg e]; exact h j (by omega) (by simpa using hj)
theorem leave (a b : Int) (k : Nat) (hk : k ≤ 9) (ht : eqs (cut a k) (cut b k) = true) (hf : k = 0 ∨ eqs (cut a (k - 1)) (cut b (k - 1)) = false) : (k : Int) - 1 = top a b := by
 rw [eqs_cut] at ht
 refine (topB_at a b k ?_ 9 hk ht).symm
 rcases hf with hf | hf
 · exact .inl hf
 · by_cases k0 : k = 0
   · exact .inl k0
   refine .inr fun e => ?_
   have : eqs (cut a (k - 1)) (cut b (k - 1)) = true := by
    rw [eqs_cut]; intro j h1 h2
    by_cases e2 : j = k - 1
    · rw [e2]; exact e
    · exact ht j (by omega) h2
   rw [this] at hf; cases hf
theorem Top (a b : Int) (w : World) (h0 : 0 ≤ a) (h1 : a < 18446744073709551616) (h2 : 0 ≤ b) (h3 : b < 18446744073709551616) :
 Calls Try.prog 16 #[.int .u64 a, .int .u64 b] w fun e w' => e = .returned (.int .i64 (top a b)) ∧ Below w.heap.size w w' := by
 go_enter Try.func16, Try.ntmps16
 go_wp2_with fail
 go_step3
 go_wp2_with fail
 refine (Split _ _ (by omega) (by omega)).mono ?_
 rintro e w1 ⟨rfl, hb1⟩
 go_wp2_with fail
 refine (Split _ _ (by omega) (by omega)).mono ?_
 rintro e w2 ⟨rfl, hb2⟩
 have hw : ∀ o o', Below w.heap.size w ((w2.alloc o).alloc o') := fun o o' =>
  ((hb1.trans (hb2.mono hb1.size)).alloc (Nat.le_trans hb1.size hb2.size) _).alloc (by simp; have := hb1.size; have := hb2.size; omega) _
 go_wp2_with fail
 go_step3
 go_wp2_with fail
 refine wp_loop_rounds 10 ?_
 iterate 9
  (rw [rounds_succ]; go_wp2_with fail; rotate_left 1)
 rw [rounds_succ]; go_wp2_with fail
 rotate_left 1
 all_goals (rw [Exit.noGoto_ret]; go_ret)
 · exact ⟨ret_int (leave a b 0 (by omega) ‹_› (.inl rfl)), hw _ _⟩
 · exact ⟨ret_int (leave a b 1 (by omega) ‹_› (.inr ‹_›)), hw _ _⟩
 · exact ⟨ret_int (leave a b 2 (by omega) ‹_› (.inr ‹_›)), hw _ _⟩
 · exact ⟨ret_int (leave a b 3 (by omega) ‹_› (.inr ‹_›)), hw _ _⟩
 · exact ⟨ret_int (leave a b 4 (by omega) ‹_› (.inr ‹_›)), hw _ _⟩
 · exact ⟨ret_int (leave a b 5 (by omega) ‹_› (.inr ‹_›)), hw _ _⟩
 · exact ⟨ret_int (leave a b 6 (by omega) ‹_› (.inr ‹_›)), hw _ _⟩
 · exact ⟨ret_int (leave a b 7 (by omega) ‹_› (.inr ‹_›)), hw _ _⟩
 · exact ⟨ret_int (leave a b 8 (by omega) ‹_› (.inr ‹_›)), hw _ _⟩
 · exact ⟨ret_int (leave a b 9 (by omega) rfl (.inr ‹_›)), hw _ _⟩
end Go.Proofs.Ytappnidimnhndaa.B
namespace Go.Proofs.Ytappnidimnhndaa.B
set_option linter.unusedVariables false
set_option linter.unusedSimpArgs false
theorem nat_or_mask (m j : Nat) : m ||| (2 ^ j - 1) = m / 2 ^ j * 2 ^ j + (2 ^ j - 1) := by
 have p := Nat.two_pow_pos j
 have h := nat_join j (m / 2 ^ j * 2 ^ j) (2 ^ j - 1) (Nat.mul_mod_left _ _) (by omega)
 rw [← h]
 apply Nat.eq_of_testBit_eq
 intro i
 rw [Nat.testBit_or, Nat.testBit_or, Nat.testBit_two_pow_sub_one, Nat.mul_comm, Nat.testBit_two_pow_mul, Nat.testBit_div_two_pow]
 by_cases hi : i < j
 · simp [hi]
 · have hji : j ≤ i := by omega
   simp [hi, hji, Nat.sub_add_cancel hji]
theorem or_mask (x : Int) (j : Nat) (hj : j ≤ 63) (h0 : 0 ≤ x) (h1 : x < 18446744073709551616) : bits BinOp.or IntKind.u64 x (2 ^ j - 1) = x / 2 ^ j * 2 ^ j + (2 ^ j - 1) := by
 have p : (0 : Int) < 2 ^ j := Int.pow_pos (by decide)
 have q := two_pow_le hj
 have e : (2 : Int) ^ 63 = 9223372036854775808 := by decide
 rw [u64_or _ _ h0 h1 (by omega) (by omega)]
 obtain ⟨m, rfl⟩ := Int.eq_ofNat_of_zero_le h0
 have t : ((2 : Int) ^ j - 1).toNat = 2 ^ j - 1 := by
  have := cast_two_pow j; have := Nat.two_pow_pos j; omega
 rw [t, Int.toNat_natCast, nat_or_mask]
 have c := cast_two_pow j
 have n := Nat.two_pow_pos j
 have s : ((2 ^ j - 1 : Nat) : Int) = 2 ^ j - 1 := by omega
 rw [Int.natCast_add, s, Int.natCast_mul, Int.natCast_ediv, c]
theorem pw_split (k i : Nat) : pw (k + i) = pw k * pw i := by
 unfold pw
 rw [Int.pow_add]
theorem digr_of {a b : Int} {k : Nat} (h : a / pw k = b / pw k) (j : Nat) (hj : k ≤ j) : digr a j = digr b j := by
 obtain ⟨i, rfl⟩ := Nat.exists_eq_add_of_le hj
 have p := pw_pos k
 have e : a / pw (k + i) = b / pw (k + i) := by
  rw [pw_split, ← Int.ediv_ediv_of_nonneg (by omega), ← Int.ediv_ediv_of_nonneg (by omega), h]
 unfold digr
 rcases Nat.decEq (k + i) 8 with h8 | h8
 · rw [if_neg h8, if_neg h8, e]
 · rw [if_pos h8, if_pos h8, ← h8, e]
theorem digr_ne {a b : Int} {k : Nat} (hk : k ≤ 8) (h : a / pw k ≠ b / pw k) (h2 : k < 8 → a / pw (k + 1) = b / pw (k + 1)) : digr a k ≠ digr b k := by
 unfold digr
 rcases Nat.decEq k 8 with h8 | h8
 · rw [if_neg h8, if_neg h8]
   have h3 := h2 (by omega)
   rw [pw_succ, ← Int.ediv_ediv_of_nonneg (by have := pw_pos k; omega), ← Int.ediv_ediv_of_nonneg (by have := pw_pos k; omega)] at h3
   omega
 · rw [if_pos h8, if_pos h8, ← h8]
   exact h
theorem top_of {a b : Int} {k : Nat} (hk : k ≤ 8) (h : a / pw k ≠ b / pw k) (h2 : k < 8 → a / pw (k + 1) = b / pw (k + 1)) : top a b = k := by
 have := topB_at a b (k + 1) (.inr (digr_ne hk h h2)) 9 (by omega) (fun j h3 h4 => digr_of (h2 (by omega)) j h3)
 unfold top
 omega
theorem top_lv {b d : Int} (h : b < d) : top b d = (lv b d : Int) := by
 have q : ∀ k, k ≤ 8 → pq k = pw k := fun k h => pq_pw h
 have q0 : pw 0 = 1 := by decide
 have q1 : pw 1 = 64 := by decide
 have q2 : pw 2 = 4096 := by decide
 have q3 : pw 3 = 262144 := by decide
 have q4 : pw 4 = 16777216 := by decide
 have q5 : pw 5 = 1073741824 := by decide
 have q6 : pw 6 = 68719476736 := by decide
 have q7 : pw 7 = 4398046511104 := by decide
 have q8 : pw 8 = 281474976710656 := by decide
 rcases lv_spec b d with h1 | h1 | h1 | h1 | h1 | h1 | h1 | h1 | h1
 all_goals obtain ⟨e, h2⟩ := h1
 all_goals rw [e]
 all_goals refine top_of (by decide) ?_ (fun hk => ?_)
 all_goals try simp only [Nat.zero_add, Nat.reduceAdd, q0, q1, q2, q3, q4, q5, q6, q7, q8]
 all_goals first | exact h2.1 | exact h2.2 | exact h2 | omega
theorem dig_lv {b d : Int} (h : b < d) (h8 : lv b d ≠ 8) : plc b d = (top b d, dig d (top b d)) := by
 have h9 : lv b d < 8 := by
  rcases lv_spec b d with h1 | h1 | h1 | h1 | h1 | h1 | h1 | h1 | h1
  all_goals omega
 rw [plc_at (by omega) h9 rfl, top_lv h]
 unfold dig
 rw [if_neg (by omega), if_neg (by omega), Int.toNat_natCast]
def bnd (b : Int) (k : Pk) : Int × Int :=
 if k = (-1, 0) then (0, b) else if k = (8, 0) then (addS (bits BinOp.or IntKind.u64 b (mask 48)) 1, 18446744073709551615)
 else (withd b k.1 k.2, bits BinOp.or IntKind.u64 (withd b k.1 k.2) (mask (Go.RowKit.wrap64 (6 * k.1))))
theorem far_or {b : Int} (hb : u64q b) : bits BinOp.or IntKind.u64 b (mask 48) = b / 281474976710656 * 281474976710656 + 281474976710655 := by
 have e : mask 48 = 2 ^ 48 - 1 := by decide
 rw [e, or_mask b 48 (by decide) hb.1 hb.2]
 have e2 : (2 : Int) ^ 48 = 281474976710656 := by decide
 rw [e2]
 omega
theorem withd_at (b s : Int) (j : Nat) (hj : j < 8) : withd b j s = b / (pq j * 64) * (pq j * 64) + s % 64 * pq j := by
 unfold withd
 rw [if_neg (by omega), if_neg (by omega), Int.toNat_natCast, pw_succ, ← pq_pw (by omega)]
theorem withd_u64 {b : Int} (hb : u64q b) (k : Pk) : u64q (withd b k.1 k.2) := by
 by_cases h : k.1 < 0
 · unfold withd; rw [if_pos h]; exact hb
 by_cases h8 : 8 ≤ k.1
 · unfold withd; rw [if_neg h, if_pos h8]; exact hb
 obtain ⟨k1, s⟩ := k
 have h : ¬ k1 < 0 := h
 have h8 : ¬ 8 ≤ k1 := h8
 obtain ⟨j, rfl⟩ := Int.eq_ofNat_of_zero_le (show 0 ≤ k1 by omega)
 show u64q (withd b (j : Int) s)
 have hj : j < 8 := by omega
 rw [withd_at _ _ _ hj]
 obtain ⟨b0, b1⟩ := hb
 have hj2 : j = 0 ∨ j = 1 ∨ j = 2 ∨ j = 3 ∨ j = 4 ∨ j = 5 ∨ j = 6 ∨ j = 7 := by omega
 unfold u64q
 rcases hj2 with rfl | rfl | rfl | rfl | rfl | rfl | rfl | rfl <;> simp only [pq] <;> omega
theorem bnd_u64 {b : Int} (hb : u64q b) (k : Pk) : u64q (bnd b k).1 := by
 unfold bnd
 split
 · exact ⟨Int.le_refl 0, (by decide : (0 : Int) < 18446744073709551616)⟩
 split
 · show u64q (addS _ 1)
   rw [far_or hb]
   obtain ⟨b0, b1⟩ := hb
   unfold addS u64q
   split <;> omega
 · exact withd_u64 hb k
theorem last_at {x : Int} (hx : u64q x) (j : Nat) (hj : j < 8) (hm : x % pq j = 0) : bits BinOp.or IntKind.u64 x (mask (Go.RowKit.wrap64 (6 * (j : Int)))) = x + pq j - 1 := by
 have e1 : Go.RowKit.wrap64 (6 * (j : Int)) = 6 * (j : Int) := by unfold Go.RowKit.wrap64; omega
 have e2 : mask (6 * (j : Int)) = 2 ^ (6 * j) - 1 := by
  unfold mask; rw [if_neg (by omega), if_neg (by omega), show (6 * (j : Int)).toNat = 6 * j from by omega]
 rw [e1, e2, or_mask x (6 * j) (by omega) hx.1 hx.2, ← pw_two, ← pq_pw (by omega)]
 have hj2 : j = 0 ∨ j = 1 ∨ j = 2 ∨ j = 3 ∨ j = 4 ∨ j = 5 ∨ j = 6 ∨ j = 7 := by omega
 rcases hj2 with rfl | rfl | rfl | rfl | rfl | rfl | rfl | rfl <;> simp only [pq] at hm ⊢ <;> omega
theorem bnd_spn {b : Int} (hb : u64q b) (k : Pk) : spn b k = if plc b (bnd b k).1 = k then ((bnd b k).1, (bnd b k).2, true) else (0, 0, false) := by
 by_cases hL : k = (-1, 0)
 · subst hL
   have e : bnd b (-1, 0) = (0, b) := if_pos rfl
   rw [e, if_pos (plc_late hb.1), spn_late]
 by_cases hF : k = (8, 0)
 · subst hF
   have e : bnd b (8, 0) = (addS (bits BinOp.or IntKind.u64 b (mask 48)) 1, 18446744073709551615) := by unfold bnd; rw [if_neg hL, if_pos rfl]
   rw [e, far_or hb]
   obtain ⟨b0, b1⟩ := hb
   have es : spn b (8, 0) = if b / 281474976710656 = 65535 then (0, 0, false) else ((b / 281474976710656 + 1) * 281474976710656, 18446744073709551615, true) := by unfold spn; rw [if_neg hL, if_pos rfl]
   rw [es]
   by_cases h : b / 281474976710656 = 65535
   · have ea : addS (b / 281474976710656 * 281474976710656 + 281474976710655) 1 = 18446744073709551615 := by unfold addS; rw [if_pos (by omega)]
     rw [ea, if_pos h, if_neg]
     intro hp
     have hq := plc_pos b 18446744073709551615
     rw [show plc b 18446744073709551615 = (8, 0) from hp] at hq
     cases hq with
     | far h => omega
     | «at» j s hj _ _ _ _ => omega
   · have ea : addS (b / 281474976710656 * 281474976710656 + 281474976710655) 1 = (b / 281474976710656 + 1) * 281474976710656 := by unfold addS; rw [if_neg (by omega)]; omega
     rw [ea, if_neg h, if_pos (pos_plc (.far (by omega)))]
 have e : bnd b k = (withd b k.1 k.2, bits BinOp.or IntKind.u64 (withd b k.1 k.2) (mask (Go.RowKit.wrap64 (6 * k.1)))) := by unfold bnd; rw [if_neg hL, if_neg hF]
 rw [e]
 have hw := withd_u64 hb k
 obtain ⟨k1, s⟩ := k
 show spn b (k1, s) = if plc b (withd b k1 s) = (k1, s) then (withd b k1 s, bits BinOp.or IntKind.u64 (withd b k1 s) (mask (Go.RowKit.wrap64 (6 * k1))), true) else (0, 0, false)
 by_cases hr : k1 < 0 ∨ 8 ≤ k1
 · have ew : withd b k1 s = b := by
    unfold withd
    rcases hr with h | h
    · rw [if_pos h]
    · rw [if_neg (by omega), if_pos h]
   rw [ew, plc_late (Int.le_refl b), if_neg (fun h => hL h.symm)]
   unfold spn
   rw [if_neg hL, if_neg hF, if_pos (show k1 < 0 ∨ 7 < k1 ∨ s < 1 ∨ 63 < s by omega)]
 obtain ⟨j, rfl⟩ := Int.eq_ofNat_of_zero_le (show 0 ≤ k1 by omega)
 have hj : j < 8 := by omega
 have hw : u64q (withd b (j : Int) s) := hw
 have hj2 : j = 0 ∨ j = 1 ∨ j = 2 ∨ j = 3 ∨ j = 4 ∨ j = 5 ∨ j = 6 ∨ j = 7 := by omega
 have b0 := hb.1
 by_cases hg : b / pq j % 64 < s ∧ s < 64
 · obtain ⟨g1, g2⟩ := hg
   have p : 0 ≤ b / pq j % 64 := by rcases hj2 with rfl | rfl | rfl | rfl | rfl | rfl | rfl | rfl <;> simp only [pq] <;> omega
   have es : s % 64 = s := by omega
   have ew : withd b (j : Int) s = b / pq j / 64 * 64 * pq j + s * pq j := by
    rw [withd_at _ _ _ hj, es]
    rcases hj2 with rfl | rfl | rfl | rfl | rfl | rfl | rfl | rfl <;> simp only [pq] <;> omega
   rw [ew] at hw ⊢
   have hm : (b / pq j / 64 * 64 * pq j + s * pq j) % pq j = 0 := by rcases hj2 with rfl | rfl | rfl | rfl | rfl | rfl | rfl | rfl <;> simp only [pq] <;> omega
   have hy : b / (pq j * 64) = (b / pq j / 64 * 64 * pq j + s * pq j) / (pq j * 64) ∧ (b / pq j / 64 * 64 * pq j + s * pq j) / pq j % 64 = s ∧ b < b / pq j / 64 * 64 * pq j + s * pq j := by
    clear hw hm ew
    rcases hj2 with rfl | rfl | rfl | rfl | rfl | rfl | rfl | rfl <;> simp only [pq] at g1 g2 ⊢ <;> omega
   rw [if_pos (pos_plc (.at j s hj hy.1 g1 hy.2.1 hy.2.2)), last_at hw j hj hm, spn_at b hj g1 g2]
 · have en : ¬ plc b (withd b (j : Int) s) = ((j : Int), s) := fun hp => by
    have hq := plc_pos b (withd b (j : Int) s)
    rw [hp] at hq
    generalize hk : (((j : Int), s) : Pk) = k at hq
    cases hq with
    | late h => have := (Prod.mk.inj hk).1; omega
    | far h => have := (Prod.mk.inj hk).1; omega
    | «at» j2 s2 hj2 g1 g2 g3 g4 =>
      obtain ⟨e1, e2⟩ := Prod.mk.inj hk
      have e1 : j = j2 := by omega
      subst e1 e2
      exact hg ⟨g2, by rw [← g3]; exact Int.emod_lt_of_pos _ (by decide)⟩
   rw [if_neg en]
   have p : 0 ≤ b / pq j % 64 := by rcases hj2 with rfl | rfl | rfl | rfl | rfl | rfl | rfl | rfl <;> simp only [pq] <;> omega
   unfold spn
   rw [if_neg hL, if_neg hF]
   by_cases h3 : (j : Int) < 0 ∨ 7 < (j : Int) ∨ s < 1 ∨ 63 < s
   · rw [if_pos h3]
   · rw [if_neg h3]
     show (if s ≤ b / pq (j : Int).toNat % 64 then _ else _) = _
     rw [Int.toNat_natCast, if_pos (by omega)]
theorem rgt_spn (k : Pk) : (spn 0 k).2.2 = rgt k := by
 unfold rgt
 by_cases hL : k = (-1, 0)
 · subst hL; rfl
 by_cases hF : k = (8, 0)
 · subst hF; rfl
 obtain ⟨k1, s⟩ := k
 unfold spn
 rw [if_neg hL, if_neg hF]
 by_cases h3 : k1 < 0 ∨ 7 < k1 ∨ s < 1 ∨ 63 < s
 · rw [if_pos (show k1 < 0 ∨ 7 < k1 ∨ s < 1 ∨ 63 < s from h3)]
   refine (decide_eq_false ?_).symm
   rintro (h | h | h)
   · exact hL h
   · exact hF h
   · have : 0 ≤ k1 ∧ k1 < 8 ∧ 0 < s ∧ s < 64 := h
     omega
 · rw [if_neg (show ¬ (k1 < 0 ∨ 7 < k1 ∨ s < 1 ∨ 63 < s) from h3)]
   have hz : (0 : Int) / pq k1.toNat % 64 = 0 := by rw [Int.zero_ediv]; rfl
   show (if s ≤ (0 : Int) / pq k1.toNat % 64 then (0, 0, false) else _ : Int × Int × Bool).2.2 = _
   rw [hz, if_neg (by omega)]
   refine (decide_eq_true (.inr (.inr ?_))).symm
   show 0 ≤ k1 ∧ k1 < 8 ∧ 0 < s ∧ s < 64
   omega
theorem lss_self (k : Pk) : lss k k = false := by unfold lss; exact decide_eq_false (by omega)
theorem pos_order {b c d : Int} {x y : Pk} (hx : Pos b c x) (hy : Pos b d y) (hne : x ≠ y) : lss x y = decide (c < d) := by
 have key : (x.1 < y.1 ∨ (x.1 = y.1 ∧ x.2 < y.2)) ↔ c < d := by
  cases hx with
  | late h =>
    cases hy with
    | late h2 => exact absurd rfl hne
    | far h2 => exact ⟨fun _ => by omega, fun _ => .inl (by decide)⟩
    | «at» j s hj h1 h2 h3 h4 => exact ⟨fun _ => by omega, fun _ => .inl (by show (-1 : Int) < (j : Int); omega)⟩
  | far h =>
    cases hy with
    | late h2 => exact ⟨fun g => by rcases g with g | g <;> (first | exact absurd g (by decide) | exact absurd g.1 (by decide)), fun g => by omega⟩
    | far h2 => exact absurd rfl hne
    | «at» j s hj h1 h2 h3 h4 =>
      have hj2 : j = 0 ∨ j = 1 ∨ j = 2 ∨ j = 3 ∨ j = 4 ∨ j = 5 ∨ j = 6 ∨ j = 7 := by omega
      have hcd : d < c := by rcases hj2 with rfl | rfl | rfl | rfl | rfl | rfl | rfl | rfl <;> simp only [pq] at h1 h2 h3 <;> omega
      exact ⟨fun g => by rcases g with g | g <;> (first | (have g : (8 : Int) < (j : Int) := g; omega) | (have g : (8 : Int) = (j : Int) := g.1; omega)), fun g => by omega⟩
  | «at» i r hi g1 g2 g3 g4 =>
    have hi2 : i = 0 ∨ i = 1 ∨ i = 2 ∨ i = 3 ∨ i = 4 ∨ i = 5 ∨ i = 6 ∨ i = 7 := by omega
    cases hy with
    | late h2 => exact ⟨fun g => by rcases g with g | g <;> (first | (have g : (i : Int) < (-1 : Int) := g; omega) | (have g : (i : Int) = (-1 : Int) := g.1; omega)), fun g => by omega⟩
    | far h2 =>
      have hcd : c < d := by rcases hi2 with rfl | rfl | rfl | rfl | rfl | rfl | rfl | rfl <;> simp only [pq] at g1 g2 g3 <;> omega
      exact ⟨fun _ => hcd, fun _ => .inl (by show (i : Int) < 8; omega)⟩
    | «at» j s hj h1 h2 h3 h4 =>
      have hj2 : j = 0 ∨ j = 1 ∨ j = 2 ∨ j = 3 ∨ j = 4 ∨ j = 5 ∨ j = 6 ∨ j = 7 := by omega
      have hrs : i = j → r ≠ s := fun e e2 => hne (by rw [e, e2])
      show ((i : Int) < (j : Int) ∨ ((i : Int) = (j : Int) ∧ r < s)) ↔ c < d
      clear hne
      rcases hi2 with rfl | rfl | rfl | rfl | rfl | rfl | rfl | rfl <;> simp only [pq] at g1 g2 g3 <;> rcases hj2 with rfl | rfl | rfl | rfl | rfl | rfl | rfl | rfl <;> simp only [pq] at h1 h2 h3 <;>
       (first | (have hrs2 := hrs rfl; omega) | omega)
 unfold lss
 exact decide_eq_decide.2 key
theorem order_law (b c d : Int) (h : plc b c ≠ plc b d) : lss (plc b c) (plc b d) = decide (c < d) := pos_order (plc_pos b c) (plc_pos b d) h
end Go.Proofs.Ytappnidimnhndaa.B
namespace Go.Proofs.Ytappnidimnhndaa.B
set_option linter.unusedVariables false
set_option linter.unusedSimpArgs false
open Go.ChangeShapes Go.WideShapes Go.RowKit
def hv (n : Int) (k : Nat) : Int := n / 2 ^ k
theorem Power (l : Int) (w : World) (h0 : 0 ≤ l) (h1 : l ≤ 8) :
 Calls Try.prog 20 #[.int .i64 l] w fun e w' => e = .returned (.int .u64 (pw l.toNat)) ∧ w = w' := by
 obtain ⟨n, rfl⟩ := Int.eq_ofNat_of_zero_le h0
 rw [Int.toNat_natCast]
 go_enter Try.func20, Try.ntmps20
 go_wp2
 go_loop [3, 4] (fun m i => ∃ k : Nat, k ≤ n ∧ i = .int .i64 k ∧ m = .int .u64 (pw k)) (fun _ i => n - (intOf i).toNat)
 case atStart => exact ⟨0, by omega, rfl, rfl⟩
 case round =>
  obtain ⟨k, hk, rfl, rfl⟩ := hrel
  have p1 := pw_pos k
  have p2 := pw_le (show k ≤ 8 by omega)
  by_cases hlt : k < n
  · go_wp2
    go_round
    case rel => exact ⟨k + 1, by omega, by go_num, by rw [pw_succ]⟩
    case measure => simp [intOf]; omega
  · go_wp2
    go_ret
    exact ⟨ret_int (by rw [show k = n by omega]), rfl⟩
end Go.Proofs.Ytappnidimnhndaa.B
namespace Go.Proofs.Ytappnidimnhndaa.B
set_option linter.unusedVariables false
set_option linter.unusedSimpArgs false
set_option maxRecDepth 100000
open Go.ChangeShapes Go.WideShapes Go.RowKit Go.Sort
abbrev tKy : TypeId := 24
abbrev tKr : TypeId := 29
def kyl (k : Pk) : List Value := [.int .i64 k.1, .int .i64 k.2]
def kyv (k : Pk) : Value := .agg (kyl k).toArray
def kok (k : Pk) : Prop := (-9223372036854775808 ≤ k.1 ∧ k.1 < 9223372036854775808) ∧ (-9223372036854775808 ≤ k.2 ∧ k.2 < 9223372036854775808)
theorem partKy (k : Pk) (w : World) : (part 3 (kyl k).toArray 0).run Try.prog w = .ok (.int .i64 k.1) w ∧ (part 3 (kyl k).toArray 1).run Try.prog w = .ok (.int .i64 k.2) w := by
 have ha : (isAgg 3).run Try.prog w = .ok false w := by kernel_rfl
 refine ⟨?_, ?_⟩ <;> simp [part, ha, Sem.run_bind, kyl]
theorem twoEq (a b : Pk) : decide (a = b) = (a.1 == b.1 && a.2 == b.2) := by
 obtain ⟨a1, a2⟩ := a
 obtain ⟨b1, b2⟩ := b
 rw [Bool.eq_iff_iff]
 simp
theorem eqKy (a b : Pk) (w : World) : (Op.equalIn 10000 24 (kyv a) (kyv b)).run Try.prog w = .ok (decide (a = b)) w := by
 obtain ⟨p0, p1⟩ := partKy a w
 obtain ⟨r0, r1⟩ := partKy b w
 have q := fun x y : Int => run_equalIn_int (P := Try.prog) w 9998 3 .i64 .i64 x y Try.underlying3
 unfold kyv
 rw [run_equalIn_struct w 9999 24 _ _ (by kernel_rfl) (by kernel_rfl), twoEq]
 simp only [Program.fieldsOf, Try.underlying24]
 cases h1 : (a.1 == b.1) <;> cases h2 : (a.2 == b.2) <;> simp [Op.eqFields, Sem.run_bind, p0, p1, r0, r1, q, h1, h2, Result.andThen_ok]
theorem eqKr (a b : Pk) (w : World) : (Op.equalIn 10000 29 (kyv a) (kyv b)).run Try.prog w = .ok (decide (a = b)) w := by
 obtain ⟨p0, p1⟩ := partKy a w
 obtain ⟨r0, r1⟩ := partKy b w
 have q := fun x y : Int => run_equalIn_int (P := Try.prog) w 9998 3 .i64 .i64 x y Try.underlying3
 unfold kyv
 rw [run_equalIn_struct w 9999 29 _ _ (by kernel_rfl) (by kernel_rfl), twoEq]
 simp only [Program.fieldsOf, Try.underlying29]
 cases h1 : (a.1 == b.1) <;> cases h2 : (a.2 == b.2) <;> simp [Op.eqFields, Sem.run_bind, p0, p1, r0, r1, q, h1, h2, Result.andThen_ok]
theorem eqK (a b : Pk) (w : World) : (binOp .eql 24 (.agg #[.int .i64 a.1, .int .i64 a.2]) (.agg #[.int .i64 b.1, .int .i64 b.2])).run Try.prog w = .ok (.bool (decide (a = b))) w := by
 have e : (Op.equalIn 10000 24 (.agg #[.int .i64 a.1, .int .i64 a.2]) (.agg #[.int .i64 b.1, .int .i64 b.2])).run Try.prog w = .ok (decide (a = b)) w := eqKy a b w
 simp only [binOp, Op.equal, Sem.run_bind, Op.maxDepth]
 rw [e]
 rfl
theorem neK (a b : Pk) (w : World) : (binOp .neq 24 (.agg #[.int .i64 a.1, .int .i64 a.2]) (.agg #[.int .i64 b.1, .int .i64 b.2])).run Try.prog w = .ok (.bool (!decide (a = b))) w := by
 have e : (Op.equalIn 10000 24 (.agg #[.int .i64 a.1, .int .i64 a.2]) (.agg #[.int .i64 b.1, .int .i64 b.2])).run Try.prog w = .ok (decide (a = b)) w := eqKy a b w
 simp only [binOp, Op.equal, Sem.run_bind, Op.maxDepth]
 rw [e]
 rfl
theorem eqR (a b : Pk) (w : World) : (binOp .eql 29 (.agg #[.int .i64 a.1, .int .i64 a.2]) (.agg #[.int .i64 b.1, .int .i64 b.2])).run Try.prog w = .ok (.bool (decide (a = b))) w := by
 have e : (Op.equalIn 10000 29 (.agg #[.int .i64 a.1, .int .i64 a.2]) (.agg #[.int .i64 b.1, .int .i64 b.2])).run Try.prog w = .ok (decide (a = b)) w := eqKr a b w
 simp only [binOp, Op.equal, Sem.run_bind, Op.maxDepth]
 rw [e]
 rfl
theorem gK (x y : Operand) (a b : Pk) (w : World) : (eqGuard .eql 24 x y (.agg #[.int .i64 a.1, .int .i64 a.2]) (.agg #[.int .i64 b.1, .int .i64 b.2])).run Try.prog w = .ok () w := by
 have e : Try.prog.eqGuardType Try.prog.depth 24 = false := by kernel_rfl
 simp [eqGuard, Sem.run_bind, run_program, e]
theorem gKn (x y : Operand) (a b : Pk) (w : World) : (eqGuard .neq 24 x y (.agg #[.int .i64 a.1, .int .i64 a.2]) (.agg #[.int .i64 b.1, .int .i64 b.2])).run Try.prog w = .ok () w := by
 have e : Try.prog.eqGuardType Try.prog.depth 24 = false := by kernel_rfl
 simp [eqGuard, Sem.run_bind, run_program, e]
theorem gR (x y : Operand) (a b : Pk) (w : World) : (eqGuard .eql 29 x y (.agg #[.int .i64 a.1, .int .i64 a.2]) (.agg #[.int .i64 b.1, .int .i64 b.2])).run Try.prog w = .ok () w := by
 have e : Try.prog.eqGuardType Try.prog.depth 29 = false := by kernel_rfl
 simp [eqGuard, Sem.run_bind, run_program, e]
structure PlaceC : Prop where
 of : ∀ (w : World) b d, u64q b → u64q d → Calls Try.prog 6 #[.int .u64 b, .int .u64 d] w fun e w' => e = .returned (kyv (plc b d)) ∧ Below w.heap.size w w'
 right : ∀ (w : World) k, kok k → Calls Try.prog 13 #[kyv k] w fun e w' => e = .returned (.bool (rgt k)) ∧ Below w.heap.size w w'
 less : ∀ (w : World) a b, kok a → kok b → Calls Try.prog 15 #[kyv a, kyv b] w fun e w' => e = .returned (.bool (lss a b)) ∧ Below w.heap.size w w'
 span : ∀ (w : World) b k, u64q b → kok k → Calls Try.prog 7 #[.int .u64 b, kyv k] w fun e w' => e = .returned (.tuple #[.int .u64 (spn b k).1, .int .u64 (spn b k).2.1, .bool (spn b k).2.2]) ∧ Below w.heap.size w w'
 touched : ∀ (w : World) b t k, u64q b → u64q t → kok k → Calls Try.prog 14 #[.int .u64 b, .int .u64 t, kyv k] w fun e w' => e = .returned (.bool (tch b t k)) ∧ Below w.heap.size w w'
 late : ∀ (w : World), Calls Try.prog 9 #[] w fun e w' => e = .returned (kyv (-1, 0)) ∧ Below w.heap.size w w'
 far : ∀ (w : World), Calls Try.prog 10 #[] w fun e w' => e = .returned (kyv (8, 0)) ∧ Below w.heap.size w w'
end Go.Proofs.Ytappnidimnhndaa.B
namespace Go.Proofs.Ytappnidimnhndaa.B
set_option linter.unusedVariables false
set_option linter.unusedSimpArgs false
open Go.RowKit Go.Sort
section
variable {P : Program}
def PartAt (cs : Array Value) (o : Nat) (vs : List Value) : Prop := ∀ j v, vs[j]? = some v → cs[o + j]? = some v
theorem part_all (vs : List Value) : PartAt vs.toArray 0 vs := fun j v h => by simpa using h
theorem loadVar_part (w : World) (g o : Nat) (t ty : TypeId) (cs : Array Value) (fr : Nat × Nat) (d : TypeDesc) (vs : List Value) (hg : w.heap[g]? = some (.cells cs t fr))
 (hu : P.underlying ty = some d) (hd : (match d with | .struct _ | .array _ _ => true | _ => false) = true) (hi : (P.info? ty).map (·.size) = some vs.length) (hp : PartAt cs o vs) :
 (loadVar ty ⟨g, o, none⟩).run P w = .ok (.agg vs.toArray) w := by
 have hl : (loadCells ⟨g, o, none⟩ vs.length).run P w = .ok vs.toArray w :=
  run_loadCells_list (P := P) w ⟨g, o, none⟩ vs (fun j v hv => by
   have hadd : (⟨g, o, none⟩ : Addr).add j = ⟨g, o + j, none⟩ := by unfold Addr.add; split <;> simp_all
   rw [hadd, cell_of_row w g (o + j) cs t fr hg]
   exact hp j v hv)
 cases hq : P.info? ty with
 | none => simp [hq] at hi
 | some i =>
   have hs : i.size = vs.length := by simpa [hq] using hi
   have hagg : (isAgg ty).run P w = .ok true w := by
    unfold isAgg
    rw [Sem.run_bind, run_underlying hu w]
    cases d <;> simp_all
   simp [loadVar, Sem.run_bind, hagg, sizeOf, typeInfo, hq, hs, hl]
theorem results_cell_one {fn : Func} {p : Tmp} {ty : TypeId} (h : fn.results = #[.cell p ty]) (tmps : Array Value) (w : World) (g off : Nat) {t : TypeId} {cs : Array Value} {fr : Nat × Nat} (d : TypeDesc) (vs : List Value)
 (hp : tmps[p]? = some (.pointer (some ⟨g, off, none⟩))) (hg : w.heap[g]? = some (.cells cs t fr))
 (hu : P.underlying ty = some d) (hd : (match d with | .struct _ | .array _ _ => true | _ => false) = true) (hi : (P.info? ty).map (·.size) = some vs.length) (hpt : PartAt cs off vs) :
 (results fn tmps).run P w = .ok (.agg vs.toArray) w := by
 simp [results, h, hp, asAddr, loadVar_part w g off t ty cs fr d vs hg hu hd hi hpt]
end
section
variable {P : Program} {ops : Array Oper} {md : Region.Mode} {C : World → Prop}
end
end Go.Proofs.Ytappnidimnhndaa.B
namespace Go.Proofs.Ytappnidimnhndaa.B
set_option linter.unusedVariables false
set_option linter.unusedSimpArgs false
set_option maxRecDepth 100000
open Go.ChangeShapes Go.WideShapes Go.RowKit Go.Sort
theorem nat_beq8 {k : Nat} (h : k < 8) : ((k : Int) == 8) = false := beq_eq_false_iff_ne.2 (by omega)
def KAt (T : TypeId) (w0 w : World) : Prop := w.heap[w0.heap.size]? = some (.cells #[.int .i64 0, .int .i64 0] T (0, 0)) ∧ Below w0.heap.size w0 w ∧ w0.heap.size < w.heap.size
theorem KAt.new (T : TypeId) (w : World) : KAt T w (w.alloc (.cells #[.int .i64 0, .int .i64 0] T (0, 0))) := ⟨blk_new w _, trA (tr0 w) _, by simp⟩
theorem KAt.below {T : TypeId} {w0 w w' : World} (h : KAt T w0 w) (hb : Below w.heap.size w w') : KAt T w0 w' :=
 have h1 := blk_below hb h.1 h.2.2
 ⟨h1, tr h.2.1 hb, lt_of_block h1⟩
theorem KAt.cells {T : TypeId} {w0 w : World} (h : KAt T w0 w) : w.cell? ⟨w0.heap.size, 0, none⟩ = some (.int .i64 0) ∧ w.cell? ⟨w0.heap.size, 1, none⟩ = some (.int .i64 0) ∧ w.frozen? ⟨w0.heap.size, 0, none⟩ = false ∧ w.frozen? ⟨w0.heap.size, 1, none⟩ = false :=
 ⟨by rw [blk_cell h.1]; rfl, by rw [blk_cell h.1]; rfl, blk_free h.1 0, blk_free h.1 1⟩
theorem KAt.put {T : TypeId} {w0 w : World} (h : KAt T w0 w) (x y : Int) : ((w.setCell ⟨w0.heap.size, 0, none⟩ (.int .i64 x)).setCell ⟨w0.heap.size, 1, none⟩ (.int .i64 y)).heap[w0.heap.size]? = some (.cells #[.int .i64 x, .int .i64 y] T (0, 0)) :=
 blk_set (blk_set h.1 0 _) 1 _
theorem KAt.left {T : TypeId} {w0 w : World} (h : KAt T w0 w) (x y : Value) : Below w0.heap.size w0 ((w.setCell ⟨w0.heap.size, 0, none⟩ x).setCell ⟨w0.heap.size, 1, none⟩ y) :=
 (h.2.1.setCell (p := ⟨w0.heap.size, 0, none⟩) (Nat.le_refl _) _).setCell (p := ⟨w0.heap.size, 1, none⟩) (Nat.le_refl _) _
set_option maxHeartbeats 3200000 in
theorem dOf (b d : Int) (w : World) (hb : u64q b) (hd : u64q d) : Calls Try.prog 12 #[.int .u64 b, .int .u64 d] w fun e w' => e = .returned (kyv (plc b d)) ∧ Below w.heap.size w w' := by
 obtain ⟨b0, b1⟩ := hb
 obtain ⟨d0, d1⟩ := hd
 by_cases h : d ≤ b
 · rw [plc_late h]
   go_enter Try.func12, Try.ntmps12
   go_wp2_with fail
   refine bodyPost_ret (v := kyv (-1, 0)) ?_ rfl ⟨rfl, trA (tr0 w) _⟩
   exact results_cell_one rfl _ _ w.heap.size 0 _ [.int .i64 (-1), .int .i64 0] rfl (blk_new w _) Try.underlying29 rfl (by kernel_rfl) (part_all _)
 have HN := Lib.hid h
 go_enter Try.func12, Try.ntmps12
 go_wp2_with fail
 go_loopw [5] (fun a wr => ∃ k : Nat, k ≤ 8 ∧ a = .int .i64 k ∧ noLv b d k ∧ KAt tKr w wr) (fun a wr => 8 - (intOf a).toNat)
 case atStart => exact ⟨0, by omega, rfl, fun j hj => absurd hj (by omega), KAt.new _ _⟩
 case round =>
  obtain ⟨k, hk, rfl, hn, hw⟩ := hrel
  obtain ⟨c0, c1, f0, f1⟩ := hw.cells
  have hlw := hw.2.2
  have HW := Lib.hid hw
  clear hw
  rcases Nat.lt_or_ge k 8 with hlt | hge
  · have p1 := pw_pos k
    have p2 := pw_le (show k ≤ 8 by omega)
    have p3 : 0 ≤ b / pw k := Int.ediv_nonneg b0 (by omega)
    have p4 : 0 ≤ d / pw k := Int.ediv_nonneg d0 (by omega)
    have p5 : b / pw k < 18446744073709551616 := Int.lt_of_le_of_lt (Int.ediv_le_self _ b0) b1
    have p6 : d / pw k < 18446744073709551616 := Int.lt_of_le_of_lt (Int.ediv_le_self _ d0) d1
    have hlt2 : ((k : Int) < 8) := by omega
    have h8 := nat_beq8 hlt
    have HP := Lib.hid (fun w' => by have := Power (k : Int) w' (by omega) (by omega); rwa [Int.toNat_natCast] at this)
    by_cases he : b / pw k / 64 = d / pw k / 64
    · have hl := plc_at (by have := HN.out; omega) hlt (hn.at hlt he)
      have he2 : (b / pw k / 64 != d / pw k / 64) = false := by simpa using he
      have HL := Lib.hid hl
      clear hl hn he
      go_wp2_with fail
      go_quiet ((go_at_call 20; exact Calls.quiet_of_same ((HP.out _).mono fun _ _ h => ⟨h.1, h.2.symm⟩)))
      go_wp2_with fail
      refine (HP.out _).mono ?_
      rintro e w' ⟨rfl, rfl⟩
      have HW2 := Lib.hid (HW.out.below (below_drewN (tr0 _) nq))
      obtain ⟨c0, c1, f0, f1⟩ := HW2.out.cells
      have hlw2 := HW2.out.2.2
      go_wp2_with fail
      refine bodyPost_ret (v := kyv ((k : Int), d / pw k % 64)) ?_ rfl ⟨by rw [HL.out], HW2.out.left _ _⟩
      exact results_cell_one rfl _ _ w.heap.size 0 _ [.int .i64 k, .int .i64 (d / pw k % 64)] rfl (HW2.out.put _ _) Try.underlying29 rfl (by kernel_rfl) (part_all _)
    · have HN := Lib.hid (hn.next he)
      have he2 : (b / pw k / 64 != d / pw k / 64) = true := by simpa using he
      clear hn he
      go_wp2_with fail
      go_quiet ((go_at_call 20; exact Calls.quiet_of_same ((HP.out _).mono fun _ _ h => ⟨h.1, h.2.symm⟩)))
      go_wp2_with fail
      go_roundw
      case rel => exact ⟨k + 1, by omega, by go_num, HN.out, HW.out.below (below_drewN (tr0 _) _)⟩
      case measure => simp [intOf]; omega
  · have hk8 : k = 8 := by omega
    have e8 : (k : Int) = 8 := by omega
    rw [hk8] at hn
    have HL := Lib.hid (plc_far (by have := HN.out; omega) hn.all)
    rw [e8]
    clear hn hge hk
    go_wp2_with fail
    go_quiet (fail)
    go_wp2_with fail
    have HW2 := Lib.hid (HW.out.below (below_drewN (tr0 _) nq))
    obtain ⟨c0, c1, f0, f1⟩ := HW2.out.cells
    have hlw2 := HW2.out.2.2
    go_wp2_with fail
    refine bodyPost_ret (v := kyv (8, 0)) ?_ rfl ⟨by rw [HL.out], HW2.out.left _ _⟩
    exact results_cell_one rfl _ _ w.heap.size 0 _ [.int .i64 8, .int .i64 0] rfl (HW2.out.put _ _) Try.underlying29 rfl (by kernel_rfl) (part_all _)
end Go.Proofs.Ytappnidimnhndaa.B
