/- What each function of package lines returns. -/
import Derived.Test.YtbmdhbcmiljanaaLPlain
import Derived.Test.YtbmdhbcmiljanaaBField
import Derived.Laws.StructEq
namespace Go.Proofs.Ytbmdhbcmiljanaa.B
set_option linter.unusedVariables false
set_option linter.unusedSimpArgs false
open Go.ChangeShapes Go.WideShapes Go.RowKit Go.Sort
/-- A controller's block. -/
def LAt (w : World) (p : Nat) (h m : Int) : Prop := w.heap[p]? = some (.cells #[.int .u32 h, .int .u32 m] 55 (0, 0))
theorem LAt.c0 {w : World} {p : Nat} {h m : Int} (a : LAt w p h m) : w.cell? ⟨p, 0, none⟩ = some (.int .u32 h) := by
  have := blk_cell a 0; simpa using this
theorem LAt.c1 {w : World} {p : Nat} {h m : Int} (a : LAt w p h m) : w.cell? ⟨p, 1, none⟩ = some (.int .u32 m) := by
  have := blk_cell a 1; simpa using this
theorem LAt.free {w : World} {p : Nat} {h m : Int} (a : LAt w p h m) (j : Nat) : w.frozen? ⟨p, j, none⟩ = false := blk_free a j
theorem LAt.lt {w : World} {p : Nat} {h m : Int} (a : LAt w p h m) : p < w.heap.size := lt_of_block a
theorem LAt.set0 {w : World} {p : Nat} {h m : Int} (a : LAt w p h m) (v : Int) : LAt (w.setCell ⟨p, 0, none⟩ (.int .u32 v)) p v m := by
  have := blk_set a 0 (.int .u32 v); simpa [LAt] using this
theorem LAt.set1 {w : World} {p : Nat} {h m : Int} (a : LAt w p h m) (v : Int) : LAt (w.setCell ⟨p, 1, none⟩ (.int .u32 v)) p h v := by
  have := blk_set a 1 (.int .u32 v); simpa [LAt] using this
theorem LAt.below {w w' : World} {p : Nat} {h m : Int} (a : LAt w p h m) (hb : Below w.heap.size w w') : LAt w' p h m := blk_below hb a a.lt
theorem lNew (w : World) : Calls Try.prog 6 #[] w fun e w' => e = .returned (.pointer (some ⟨w.heap.size, 0, none⟩)) ∧ w' = w.alloc (.cells #[.int .u32 0, .int .u32 0] 55) := by
  go_enter Try.func6, Try.ntmps6
  go_wp2_with fail
  go_ret
  exact ⟨rfl, rfl⟩
theorem lSet (h m i : Int) (b : Bool) (p : Nat) (w : World) (a : LAt w p h m) (h0 : 0 ≤ h) (h1 : h < 4294967296) (i0 : 0 ≤ i) (i1 : i < 32) :
    Calls Try.prog 7 #[.pointer (some ⟨p, 0, none⟩), .int .i64 i, .bool b] w fun e w' => e = .returned (.bool true) ∧ w' = w.setCell ⟨p, 0, none⟩ (.int .u32 (put h i 1 (tk b))) := by
  have c0 := a.c0
  have f0 := a.free 0
  clear a
  cases b
  all_goals
    go_enter Try.func7, Try.ntmps7
    go_wp2_with (go_at_call 22; refine (Put _ _ _ _ _ h0 h1 (by omega) (by omega) (by omega) (by omega)).mono ?_; rintro e w' ⟨rfl, rfl⟩)
    go_ret
    exact ⟨rfl, rfl⟩
theorem lSetNo (x : Option Addr) (i : Int) (b : Bool) (w : World) (hi : i < 0 ∨ 32 ≤ i) :
    Calls Try.prog 7 #[.pointer x, .int .i64 i, .bool b] w fun e w' => e = .returned (.bool false) ∧ w = w' := by
  cases x
  all_goals
    rcases hi with hi | hi
    all_goals
      go_enter Try.func7, Try.ntmps7
      go_wp2_with fail
      go_ret
      exact ⟨rfl, rfl⟩
theorem lSetNil (i : Int) (b : Bool) (w : World) :
    Calls Try.prog 7 #[.pointer none, .int .i64 i, .bool b] w fun e w' => e = .returned (.bool false) ∧ w = w' := by
  go_enter Try.func7, Try.ntmps7
  go_wp2_with fail
  go_ret
  exact ⟨rfl, rfl⟩
theorem lAll (h m v : Int) (p : Nat) (w : World) (a : LAt w p h m) :
    Calls Try.prog 8 #[.pointer (some ⟨p, 0, none⟩), .int .u32 v] w fun e w' => e = .returned (.tuple #[]) ∧ w' = w.setCell ⟨p, 0, none⟩ (.int .u32 v) := by
  have c0 := a.c0
  have f0 := a.free 0
  clear a
  go_enter Try.func8, Try.ntmps8
  go_wp2_with fail
  go_end0
  exact ⟨rfl, rfl⟩
theorem lAllNil (v : Int) (w : World) :
    Calls Try.prog 8 #[.pointer none, .int .u32 v] w fun e w' => e = .returned (.tuple #[]) ∧ w = w' := by
  go_enter Try.func8, Try.ntmps8
  go_wp2_with fail
  refine bodyPost_ret (v := .tuple #[]) ?_ rfl ⟨rfl, rfl⟩
  simp [results, Try.results8, go_sem]
theorem lReset (h m : Int) (p : Nat) (w : World) (a : LAt w p h m) :
    Calls Try.prog 14 #[.pointer (some ⟨p, 0, none⟩)] w fun e w' => e = .returned (.tuple #[]) ∧ w' = w.setCell ⟨p, 1, none⟩ (.int .u32 0) := by
  have c1 := a.c1
  have f1 := a.free 1
  clear a
  go_enter Try.func14, Try.ntmps14
  go_wp2_with fail
  go_end0
  exact ⟨rfl, rfl⟩
theorem lResetNil (w : World) :
    Calls Try.prog 14 #[.pointer none] w fun e w' => e = .returned (.tuple #[]) ∧ w = w' := by
  go_enter Try.func14, Try.ntmps14
  go_wp2_with fail
  refine bodyPost_ret (v := .tuple #[]) ?_ rfl ⟨rfl, rfl⟩
  simp [results, Try.results14, go_sem]
theorem lHigh (h m : Int) (p : Nat) (w : World) (a : LAt w p h m) :
    Calls Try.prog 21 #[.pointer (some ⟨p, 0, none⟩)] w fun e w' => e = .returned (.int .u32 h) ∧ w = w' := by
  have c0 := a.c0
  clear a
  go_enter Try.func21, Try.ntmps21
  go_wp2_with fail
  go_ret
  exact ⟨rfl, rfl⟩
theorem lHighNil (w : World) :
    Calls Try.prog 21 #[.pointer none] w fun e w' => e = .returned (.int .u32 0) ∧ w = w' := by
  go_enter Try.func21, Try.ntmps21
  go_wp2_with fail
  go_ret
  exact ⟨rfl, rfl⟩
theorem lCopy (h m : Int) (p : Nat) (w : World) (a : LAt w p h m) :
    Calls Try.prog 15 #[.pointer (some ⟨p, 0, none⟩)] w fun e w' => e = .returned (.pointer (some ⟨w.heap.size, 0, none⟩)) ∧ w' = w.alloc (.cells #[.int .u32 h, .int .u32 m] 55) := by
  have c0 := a.c0
  have c1 := a.c1
  clear a
  go_enter Try.func15, Try.ntmps15
  go_wp2_with fail
  go_ret
  exact ⟨rfl, rfl⟩
theorem lCopyNil (w : World) :
    Calls Try.prog 15 #[.pointer none] w fun e w' => e = .returned (.pointer none) ∧ w = w' := by
  go_enter Try.func15, Try.ntmps15
  go_wp2_with fail
  go_ret
  exact ⟨rfl, rfl⟩
theorem lBoth (h m : Int) (w : World) :
    Calls Try.prog 26 #[.agg #[.int .u32 h, .int .u32 m]] w fun e w' => e = .returned (.int .u32 (bits BinOp.and IntKind.u32 h m)) ∧ Below w.heap.size w w' := by
  go_enter Try.func26, Try.ntmps26
  go_wp2_with fail
  go_ret
  exact ⟨rfl, trA (tr0 w) _⟩
theorem lQuiet (h m : Int) (w : World) :
    Calls Try.prog 28 #[.agg #[.int .u32 h, .int .u32 m]] w fun e w' => e = .returned (.agg #[.int .u32 (bits BinOp.andNot IntKind.u32 h m), .int .u32 m]) ∧ Below w.heap.size w w' := by
  go_enter Try.func28, Try.ntmps28
  go_wp2_with fail
  refine bodyPost_ret (v := .agg #[.int .u32 (bits BinOp.andNot IntKind.u32 h m), .int .u32 m]) ?_ rfl ?_
  · simp [results, Try.results28, go_sem]
  · exact ⟨rfl, trA (trA (tr0 w) _) _⟩
/-- check. -/
theorem lCheck (x : Option Addr) (o : Int) (w : World) (o0 : 0 ≤ o) (o1 : o < 4294967296) (e : Int) (he : (if x = none then 10 else if (o % 4 != 0) = true then 11 else if 8 < o then 10 else 0) = e) :
    Calls Try.prog 25 #[.pointer x, .int .u32 o] w fun e' w' => e' = .returned (.int .i64 e) ∧ w = w' := by
  cases x with
  | none =>
    rw [if_pos rfl] at he; subst he
    go_enter Try.func25, Try.ntmps25
    go_wp2_with fail
    go_ret
    exact ⟨rfl, rfl⟩
  | some x =>
    rw [if_neg (by simp)] at he
    cases h4 : (o % 4 != 0)
    · rw [h4, if_neg (by simp)] at he
      by_cases h8 : 8 < o
      · rw [if_pos h8] at he; subst he
        go_enter Try.func25, Try.ntmps25
        go_wp2_with fail
        go_ret
        exact ⟨rfl, rfl⟩
      · rw [if_neg h8] at he; subst he
        go_enter Try.func25, Try.ntmps25
        go_wp2_with fail
        go_ret
        exact ⟨rfl, rfl⟩
    · rw [h4, if_pos rfl] at he; subst he
      go_enter Try.func25, Try.ntmps25
      go_wp2_with fail
      go_ret
      exact ⟨rfl, rfl⟩
/-- The error of an offset. -/
def lErr (o : Int) : Int := if (o % 4 != 0) = true then 11 else if 8 < o then 10 else 0
def lVal (h m o : Int) : Int := if lErr o = 0 then (if o = 0 then h else if o = 4 then m else bits BinOp.and IntKind.u32 h m) else 0
theorem lErr_zero {o : Int} (o0 : 0 ≤ o) (h : lErr o = 0) : o = 0 ∨ o = 4 ∨ o = 8 := by
  unfold lErr at h
  cases h4 : (o % 4 != 0)
  · rw [h4] at h; simp at h h4; omega
  · rw [h4] at h; simp at h
theorem lErr_cases (o : Int) : lErr o = 0 ∨ lErr o = 10 ∨ lErr o = 11 := by
  unfold lErr; split
  · exact .inr (.inr rfl)
  · split
    · exact .inr (.inl rfl)
    · exact .inl rfl
theorem lLoad (h m o : Int) (p : Nat) (w : World) (a : LAt w p h m) (o0 : 0 ≤ o) (o1 : o < 4294967296) :
    Calls Try.prog 11 #[.pointer (some ⟨p, 0, none⟩), .int .u32 o] w fun e w' => e = .returned (.tuple #[.int .u32 (lVal h m o), .int .i64 (lErr o)]) ∧ Below w.heap.size w w' := by
  have c0 := a.c0
  have c1 := a.c1
  clear a
  by_cases he : lErr o = 0
  · rcases lErr_zero o0 he with rfl | rfl | rfl
    all_goals
      go_enter Try.func11, Try.ntmps11
      go_wp2_with (first | (go_at_call 25; refine (lCheck _ _ _ (by omega) (by omega) 0 (by rfl)).mono ?_; rintro e w' ⟨rfl, rfl⟩) | (go_at_call 26; refine (lBoth _ _ _).mono ?_; rintro e w' ⟨rfl, hb⟩))
      go_ret2
      first
      | exact ⟨rfl, tr0 w⟩
      | exact ⟨rfl, hb⟩
  · have hv : lVal h m o = 0 := by unfold lVal; rw [if_neg he]
    rw [hv]
    have hc : (if (some (⟨p, 0, none⟩ : Addr)) = none then 10 else if (o % 4 != 0) = true then 11 else if 8 < o then 10 else 0) = lErr o := by
      rw [if_neg (by simp)]; rfl
    have hn : (lErr o == 0) = false := by simpa using he
    have hn2 : (lErr o != 0) = true := by simpa using he
    go_enter Try.func11, Try.ntmps11
    go_wp2_with fail
    refine (lCheck _ _ _ o0 o1 _ hc).mono ?_
    rintro e w' ⟨rfl, rfl⟩
    go_wp2_with fail
    go_ret2
    exact ⟨rfl, tr0 w⟩
theorem lLoadNil (o : Int) (w : World) (o0 : 0 ≤ o) (o1 : o < 4294967296) :
    Calls Try.prog 11 #[.pointer none, .int .u32 o] w fun e w' => e = .returned (.tuple #[.int .u32 0, .int .i64 10]) ∧ w = w' := by
  go_enter Try.func11, Try.ntmps11
  go_wp2_with fail
  refine (lCheck _ _ _ o0 o1 10 (by rfl)).mono ?_
  rintro e w' ⟨rfl, rfl⟩
  go_wp2_with fail
  go_ret2
  exact ⟨rfl, rfl⟩
theorem lStoreNil (o v : Int) (w : World) (o0 : 0 ≤ o) (o1 : o < 4294967296) :
    Calls Try.prog 13 #[.pointer none, .int .u32 o, .int .u32 v] w fun e w' => e = .returned (.int .i64 10) ∧ w = w' := by
  go_enter Try.func13, Try.ntmps13
  go_wp2_with fail
  refine (lCheck _ _ _ o0 o1 10 (by rfl)).mono ?_
  rintro e w' ⟨rfl, rfl⟩
  go_wp2_with fail
  go_ret
  exact ⟨rfl, rfl⟩
/-- The error of a store. -/
def sErr (o : Int) : Int := if lErr o = 0 then (if o = 4 then 0 else 12) else lErr o
theorem lStoreNo (h m o v : Int) (p : Nat) (w : World) (a : LAt w p h m) (o0 : 0 ≤ o) (o1 : o < 4294967296) (h4 : o ≠ 4) :
    Calls Try.prog 13 #[.pointer (some ⟨p, 0, none⟩), .int .u32 o, .int .u32 v] w fun e w' => e = .returned (.int .i64 (sErr o)) ∧ w = w' := by
  clear a
  have hc : (if (some (⟨p, 0, none⟩ : Addr)) = none then 10 else if (o % 4 != 0) = true then 11 else if 8 < o then 10 else 0) = lErr o := by
    rw [if_neg (by simp)]; rfl
  by_cases he : lErr o = 0
  · rw [show sErr o = 12 by unfold sErr; rw [if_pos he, if_neg h4]]
    have hn : (o != 4) = true := by simpa using h4
    rw [he] at hc
    go_enter Try.func13, Try.ntmps13
    go_wp2_with fail
    refine (lCheck _ _ _ o0 o1 _ hc).mono ?_
    rintro e w' ⟨rfl, rfl⟩
    go_wp2_with fail
    go_ret
    exact ⟨rfl, rfl⟩
  · rw [show sErr o = lErr o by unfold sErr; rw [if_neg he]]
    have hn : (lErr o == 0) = false := by simpa using he
    have hn2 : (lErr o != 0) = true := by simpa using he
    go_enter Try.func13, Try.ntmps13
    go_wp2_with fail
    refine (lCheck _ _ _ o0 o1 _ hc).mono ?_
    rintro e w' ⟨rfl, rfl⟩
    go_wp2_with fail
    go_ret
    exact ⟨rfl, rfl⟩
theorem lStore (h m v : Int) (p : Nat) (w : World) (a : LAt w p h m) :
    Calls Try.prog 13 #[.pointer (some ⟨p, 0, none⟩), .int .u32 4, .int .u32 v] w fun e w' => e = .returned (.int .i64 0) ∧ w' = w.setCell ⟨p, 1, none⟩ (.int .u32 v) := by
  have c1 := a.c1
  have f1 := a.free 1
  clear a
  go_enter Try.func13, Try.ntmps13
  go_wp2_with fail
  refine (lCheck _ _ _ (by omega) (by omega) 0 (by rfl)).mono ?_
  rintro e w' ⟨rfl, rfl⟩
  go_wp2_with fail
  go_ret
  exact ⟨rfl, rfl⟩
/-- The closure: a bit of the captured word. -/
theorem lAsk (n : Int) (k c : Nat) (w : World) (n0 : 0 ≤ n) (n1 : n < 4294967296) (hk : k < 32) (hc : w.cell? ⟨c, 0, none⟩ = some (.int .u32 n)) :
    Calls Try.prog 30 #[.int .i64 (k : Int), .pointer (some ⟨c, 0, none⟩)] w fun e w' => e = .returned (.bool (bit n k)) ∧ Below w.heap.size w w' := by
  have hf := field_one n k n0 hk
  go_enter Try.func30, Try.ntmps30
  go_wp2_with fail
  refine (Field _ _ _ _ n0 n1 (by omega) (by omega)).mono ?_
  rintro e w' ⟨rfl, d, rfl⟩
  go_wp2_with fail
  go_ret
  exact ⟨rfl, trN (tr0 w) _⟩
theorem lLeastF (n : Int) (c : Nat) (w : World) (n0 : 0 ≤ n) (n1 : n < 4294967296) (hc : w.cell? ⟨c, 0, none⟩ = some (.int .u32 n)) (hl : c < w.heap.size) :
    Calls Try.prog 29 #[.func (.func 30) #[] #[.pointer (some ⟨c, 0, none⟩)]] w fun e w' => e = .returned (.int .i64 (least (bit n))) ∧ Below w.heap.size w w' := by
  go_enter Try.func29, Try.ntmps29
  have HC := Lib.hid hc
  clear hc
  go_wp2_with fail
  go_loopw [4] (fun i wr => ∃ k : Nat, k ≤ 32 ∧ i = .int .i64 k ∧ noneB (bit n) k ∧ Below w.heap.size w wr) (fun i _ => 32 - (intOf i).toNat)
  case atStart => exact ⟨0, by omega, rfl, noneB_start _, tr0 w⟩
  case round =>
    obtain ⟨k, hk, rfl, hn, hb⟩ := hrel
    by_cases hlt : k < 32
    · have hcw : wr.cell? ⟨c, 0, none⟩ = some (.int .u32 n) := (hb.cell hl).trans HC.out
      have HW := Lib.hid hcw
      clear hcw
      cases hbit : bit n k
      · have hn' := noneB_next _ k hn hbit
        go_wp2_with fail
        refine (lAsk n k c _ n0 n1 hlt HW.out).mono ?_
        rw [hbit]
        rintro e w1 ⟨rfl, hb1⟩
        go_wp2_with fail
        go_roundw
        case rel => exact ⟨k + 1, by omega, by go_num, hn', hb.trans (hb1.mono hb.size)⟩
        case measure => simp [intOf]; omega
      · have hs := Lib.hid (least_some _ k hn hlt hbit)
        go_wp2_with fail
        refine (lAsk n k c _ n0 n1 hlt HW.out).mono ?_
        rw [hbit]
        rintro e w1 ⟨rfl, hb1⟩
        go_wp2_with fail
        go_ret
        exact ⟨ret_int hs.out.symm, hb.trans (hb1.mono hb.size)⟩
    · have hs := Lib.hid (least_none _ k hn (by omega))
      go_wp2_with fail
      go_ret
      exact ⟨ret_int hs.out.symm, hb⟩
theorem lLeast (h m : Int) (p : Nat) (w : World) (a : LAt w p h m) (h0 : 0 ≤ h) (h1 : h < 4294967296) (m0 : 0 ≤ m) (m1 : m < 4294967296) :
    Calls Try.prog 20 #[.pointer (some ⟨p, 0, none⟩)] w fun e w' => e = .returned (.int .i64 (least (lm h m))) ∧ Below w.heap.size w w' := by
  have hl := Lib.hid (least_congr (bit (bits BinOp.and IntKind.u32 h m)) (lm h m) fun i _ => lm_both h m h0 h1 m0 m1 i)
  obtain ⟨b0, b1⟩ := and_bounds h m h0 h1 m0 m1
  have c0 := a.c0
  have c1 := a.c1
  clear a
  go_enter Try.func20, Try.ntmps20
  have hmf : ∀ (fn : Fn) (first cap : Array Value) (w : World), (Instr.makeFunc fn first cap).run Try.prog w = .ok (.func fn first cap) w := fun _ _ _ _ => rfl
  go_wp2_with fail
  refine (lBoth _ _ _).mono ?_
  rintro e w1 ⟨rfl, hb1⟩
  go_wp2_with fail
  refine (lLeastF _ _ _ b0 b1 (by simp [go_sem]) (by simp)).mono ?_
  rintro e w2 ⟨rfl, hb2⟩
  go_wp2_with fail
  go_ret
  exact ⟨ret_int hl.out, tr (trA hb1 _) (by simpa using hb2)⟩
theorem lLeastNil (w : World) :
    Calls Try.prog 20 #[.pointer none] w fun e w' => e = .returned (.int .i64 (-1)) ∧ w = w' := by
  go_enter Try.func20, Try.ntmps20
  go_wp2_with fail
  go_ret
  exact ⟨rfl, rfl⟩
theorem lOut (h m : Int) (p : Nat) (w : World) (a : LAt w p h m) (h0 : 0 ≤ h) (h1 : h < 4294967296) (m0 : 0 ≤ m) (m1 : m < 4294967296) :
    Calls Try.prog 19 #[.pointer (some ⟨p, 0, none⟩)] w fun e w' => e = .returned (.bool (outB h m)) ∧ Below w.heap.size w w' := by
  have ho := out_code h m h0 h1 m0 m1
  have c0 := a.c0
  have c1 := a.c1
  have hp := a.lt
  have hg := gcell
  have hmm := self_eq m
  clear a
  cases hq : (h == bits BinOp.andNot IntKind.u32 h m)
  all_goals
    rw [hq] at ho
    have HO := Lib.hid ho
    clear ho
    go_enter Try.func19, Try.ntmps19
    go_wp2_with fail
    refine wp_region_quiet_below (by kernel_rfl) (by kernel_rfl) ?_
    repeat (go_big_quiet_step (first | (go_at_call 28; exact Calls.regrown_of (lQuiet _ _ _))))
    refine wpQuiet_nil ?_
    intro _ hw'
    obtain ⟨⟨dq, osq⟩, hw''⟩ := hw'
    subst hw''
    go_wp2_with fail
    go_ret
    exact ⟨ret_bool HO.out, trG (tr0 w) _ _⟩
theorem lOutNil (w : World) :
    Calls Try.prog 19 #[.pointer none] w fun e w' => e = .returned (.bool false) ∧ Below w.heap.size w w' := by
  go_enter Try.func19, Try.ntmps19
  go_wp2_with fail
  refine wp_region_quiet_below (by kernel_rfl) (by kernel_rfl) ?_
  repeat (go_big_quiet_step (fail))
  refine wpQuiet_nil ?_
  intro _ hw'
  obtain ⟨⟨dq, osq⟩, hw''⟩ := hw'
  subst hw''
  go_wp2_with fail
  go_ret
  exact ⟨rfl, trG (tr0 w) _ _⟩
end Go.Proofs.Ytbmdhbcmiljanaa.B
