/- The top level of two numbers. -/
import Derived.Test.YtpiihfhjafnkmaaBCode
import Derived.Laws.StructEq
import Derived.ChangeKeysEq
namespace Go.Proofs.Ytpiihfhjafnkmaa.B
set_option linter.unusedVariables false
set_option linter.unusedSimpArgs false
open Go.ChangeShapes Go.WideShapes Go.RowKit
def eqs (xs ys : List Int) : Bool := xs == ys
theorem eqItems_ints {P : Program} (d : Nat) (e : TypeId) (k : IntKind) (he : P.underlying e = some (.int k)) (xs ys : List Int) (w : World) : ∀ is : List Nat, (∀ i ∈ is, i < xs.length ∧ i < ys.length) →
    (Op.eqItems (d + 1) e 1 (xs.map (Value.int k)).toArray (ys.map (Value.int k)).toArray is).run P w = .ok (is.all fun i => xs.getD i 0 == ys.getD i 0) w := by
  intro is
  induction is with
  | nil => intro _; simp [Op.eqItems]
  | cons i is ih =>
    intro h
    obtain ⟨hx, hy⟩ := h i (by simp)
    have px : (part e (xs.map (Value.int k)).toArray (i * 1)).run P w = .ok (.int k (xs.getD i 0)) w := by
      simp [part, isAgg, run_underlying he, List.getD, List.getElem?_eq_getElem hx]
    have py : (part e (ys.map (Value.int k)).toArray (i * 1)).run P w = .ok (.int k (ys.getD i 0)) w := by
      simp [part, isAgg, run_underlying he, List.getD, List.getElem?_eq_getElem hy]
    simp only [Op.eqItems, Sem.run_bind, px, py, run_equalIn_int w d e k k _ _ he, Result.andThen_ok, List.all_cons]
    cases hb : (xs.getD i 0 == ys.getD i 0)
    · simp
    · simp only [Bool.not_true, Bool.false_eq_true, if_false, Bool.true_and]
      exact ih fun j hj => h j (by simp [hj])
theorem all_range (xs ys : List Int) (h : xs.length = ys.length) : ((List.range xs.length).all fun i => xs.getD i 0 == ys.getD i 0) = eqs xs ys := by
  unfold eqs
  rw [Bool.eq_iff_iff, List.all_eq_true, beq_iff_eq]
  constructor
  · intro hh
    apply List.ext_getElem h
    intro i h1 h2
    have := hh i (by simp [h1])
    simpa [List.getD, List.getElem?_eq_getElem h1, List.getElem?_eq_getElem h2] using this
  · rintro rfl i _; simp
@[go_sem] theorem eqParts (x0 x1 x2 x3 x4 x5 x6 x7 x8 y0 y1 y2 y3 y4 y5 y6 y7 y8 : Int) (w : World) :
    (Op.equalIn 10000 41 (.agg #[.int .u64 x0, .int .u64 x1, .int .u64 x2, .int .u64 x3, .int .u64 x4, .int .u64 x5, .int .u64 x6, .int .u64 x7, .int .u64 x8])
      (.agg #[.int .u64 y0, .int .u64 y1, .int .u64 y2, .int .u64 y3, .int .u64 y4, .int .u64 y5, .int .u64 y6, .int .u64 y7, .int .u64 y8])).run Try.prog w = .ok (eqs [x0, x1, x2, x3, x4, x5, x6, x7, x8] [y0, y1, y2, y3, y4, y5, y6, y7, y8]) w := by
  have hi : (Try.prog.info? 22).isSome = true := by kernel_rfl
  obtain ⟨i, hi⟩ := Option.isSome_iff_exists.1 hi
  have hc : Try.prog.cellsOf 22 = 1 := by kernel_rfl
  have h := run_equalIn_array w 9999 (i := i) #[.int .u64 x0, .int .u64 x1, .int .u64 x2, .int .u64 x3, .int .u64 x4, .int .u64 x5, .int .u64 x6, .int .u64 x7, .int .u64 x8] #[.int .u64 y0, .int .u64 y1, .int .u64 y2, .int .u64 y3, .int .u64 y4, .int .u64 y5, .int .u64 y6, .int .u64 y7, .int .u64 y8] Try.underlying41 hi
  rw [hc] at h
  have g := eqItems_ints 9998 22 .u64 Try.underlying22 [x0, x1, x2, x3, x4, x5, x6, x7, x8] [y0, y1, y2, y3, y4, y5, y6, y7, y8] w (List.range 9) (by intro i hi; simpa using hi)
  have r := all_range [x0, x1, x2, x3, x4, x5, x6, x7, x8] [y0, y1, y2, y3, y4, y5, y6, y7, y8] rfl
  exact (h.trans g).trans (congrArg (fun b => Result.ok b w) r)
theorem topB_at (a b : Int) (k : Nat) (h' : k = 0 ∨ digr a (k - 1) ≠ digr b (k - 1)) : ∀ n, k ≤ n → (∀ j, k ≤ j → j < n → digr a j = digr b j) → topB a b n = (k : Int) - 1 := by
  intro n
  induction n with
  | zero => intro hk _; obtain rfl : k = 0 := by omega
            rfl
  | succ n ih =>
    intro hk h
    by_cases e : k = n + 1
    · subst e
      rcases h' with h' | h'
      · omega
      · rw [topB, if_neg (by simpa using h')]; omega
    · rw [topB, if_pos (h n (by omega) (by omega))]
      exact ih (by omega) (fun j h1 h2 => h j h1 (by omega))
def cut (n : Int) (k : Nat) : List Int :=
  [if 0 < k then 0 else dig n 0, if 1 < k then 0 else dig n 1, if 2 < k then 0 else dig n 2, if 3 < k then 0 else dig n 3, if 4 < k then 0 else dig n 4,
   if 5 < k then 0 else dig n 5, if 6 < k then 0 else dig n 6, if 7 < k then 0 else dig n 7, if 8 < k then 0 else n / 281474976710656]
theorem digs (n : Int) : dig n 0 = digr n 0 ∧ dig n 1 = digr n 1 ∧ dig n 2 = digr n 2 ∧ dig n 3 = digr n 3 ∧ dig n 4 = digr n 4 ∧ dig n 5 = digr n 5 ∧ dig n 6 = digr n 6 ∧ dig n 7 = digr n 7 ∧ n / 281474976710656 = digr n 8 :=
  ⟨dig_digr n 0 (by omega), dig_digr n 1 (by omega), dig_digr n 2 (by omega), dig_digr n 3 (by omega), dig_digr n 4 (by omega), dig_digr n 5 (by omega), dig_digr n 6 (by omega), dig_digr n 7 (by omega), by unfold digr; rw [if_pos rfl, pw8]⟩
theorem cut_eq (n : Int) (k : Nat) : cut n k = (List.range 9).map fun j => if j < k then 0 else digr n j := by
  obtain ⟨a0, a1, a2, a3, a4, a5, a6, a7, a8⟩ := digs n
  unfold cut; rw [a0, a1, a2, a3, a4, a5, a6, a7, a8]; rfl
theorem eqs_cut (a b : Int) (k : Nat) : eqs (cut a k) (cut b k) = true ↔ ∀ j, k ≤ j → j < 9 → digr a j = digr b j := by
  unfold eqs
  rw [beq_iff_eq, cut_eq, cut_eq, List.map_inj_left]
  constructor
  · intro h j h1 h2
    have := h j (by simpa using h2)
    rwa [if_neg (by omega), if_neg (by omega)] at this
  · intro h j hj
    by_cases e : j < k
    · rw [if_pos e, if_pos e]
    · rw [if_neg e, if_neg e]; exact h j (by omega) (by simpa using hj)
theorem leave (a b : Int) (k : Nat) (hk : k ≤ 9) (ht : eqs (cut a k) (cut b k) = true) (hf : k = 0 ∨ eqs (cut a (k - 1)) (cut b (k - 1)) = false) : (k : Int) - 1 = top a b := by
  rw [eqs_cut] at ht
  refine (topB_at a b k ?_ 9 hk ht).symm
  rcases hf with hf | hf
  · exact .inl hf
  · by_cases k0 : k = 0
    · exact .inl k0
    refine .inr fun e => ?_
    have : eqs (cut a (k - 1)) (cut b (k - 1)) = true := by
      rw [eqs_cut]; intro j h1 h2
      by_cases e2 : j = k - 1
      · rw [e2]; exact e
      · exact ht j (by omega) h2
    rw [this] at hf; cases hf
theorem Top (a b : Int) (w : World) (h0 : 0 ≤ a) (h1 : a < 18446744073709551616) (h2 : 0 ≤ b) (h3 : b < 18446744073709551616) :
    Calls Try.prog 26 #[.int .u64 a, .int .u64 b] w fun e w' => e = .returned (.int .i64 (top a b)) ∧ Below w.heap.size w w' := by
  go_enter Try.func26, Try.ntmps26
  go_wp2_with fail
  go_step3
  go_wp2_with fail
  refine (Split _ _ (by omega) (by omega)).mono ?_
  rintro e w1 ⟨rfl, hb1⟩
  go_wp2_with fail
  refine (Split _ _ (by omega) (by omega)).mono ?_
  rintro e w2 ⟨rfl, hb2⟩
  have hw : ∀ o o', Below w.heap.size w ((w2.alloc o).alloc o') := fun o o' =>
    ((hb1.trans (hb2.mono hb1.size)).alloc (Nat.le_trans hb1.size hb2.size) _).alloc (by simp; have := hb1.size; have := hb2.size; omega) _
  go_wp2_with fail
  go_step3
  go_wp2_with fail
  refine wp_loop_rounds 10 ?_
  iterate 9
    (rw [rounds_succ]; go_wp2_with fail; rotate_left 1)
  rw [rounds_succ]; go_wp2_with fail
  rotate_left 1
  all_goals (rw [Exit.noGoto_ret]; go_ret)
  · exact ⟨ret_int (leave a b 0 (by omega) ‹_› (.inl rfl)), hw _ _⟩
  · exact ⟨ret_int (leave a b 1 (by omega) ‹_› (.inr ‹_›)), hw _ _⟩
  · exact ⟨ret_int (leave a b 2 (by omega) ‹_› (.inr ‹_›)), hw _ _⟩
  · exact ⟨ret_int (leave a b 3 (by omega) ‹_› (.inr ‹_›)), hw _ _⟩
  · exact ⟨ret_int (leave a b 4 (by omega) ‹_› (.inr ‹_›)), hw _ _⟩
  · exact ⟨ret_int (leave a b 5 (by omega) ‹_› (.inr ‹_›)), hw _ _⟩
  · exact ⟨ret_int (leave a b 6 (by omega) ‹_› (.inr ‹_›)), hw _ _⟩
  · exact ⟨ret_int (leave a b 7 (by omega) ‹_› (.inr ‹_›)), hw _ _⟩
  · exact ⟨ret_int (leave a b 8 (by omega) ‹_› (.inr ‹_›)), hw _ _⟩
  · exact ⟨ret_int (leave a b 9 (by omega) rfl (.inr ‹_›)), hw _ _⟩
end Go.Proofs.Ytpiihfhjafnkmaa.B
