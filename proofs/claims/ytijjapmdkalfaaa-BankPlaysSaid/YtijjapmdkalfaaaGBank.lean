/- What a bank's methods return: all, Len, Tick, Reset, Lines, Runs, Left, Timer. -/
import Derived.Test.YtijjapmdkalfaaaGCell
import Derived.Test.YtijjapmdkalfaaaNTick
namespace Go.Proofs.Ytijjapmdkalfaaa.B
set_option linter.unusedVariables false
set_option linter.unusedSimpArgs false
open Go.ChangeShapes Go.WideShapes Go.RowKit Go.Sort
theorem upd_step (t : Nat → Tm) (f : Tm → Tm) (k i : Nat) : upd1 (fun i => if i < k then f (t i) else t i) k (f (t k)) i = if i < k + 1 then f (t i) else t i := by
  by_cases e : i = k
  · subst e; rw [upd1_at, if_pos (by omega)]
  · rw [upd1_ne _ _ e]
    by_cases c : i < k
    · rw [if_pos (show i < k + 1 by omega)]; exact if_pos c
    · rw [if_neg (show ¬ i < k + 1 by omega)]; exact if_neg c
section
variable {p g n : Nat} {q : Nat → Nat} {t : Nat → Tm} {w : World}
theorem bAll (h : BkAt w p g n q t) : Calls Try.prog 32 #[.pointer (some ⟨p, 0, none⟩)] w fun e w' => e = .returned (.slice (some ⟨g, 0, none⟩) n n) ∧ w = w' := by
  have c0 := h.c0
  clear h
  go_enter Try.func32, Try.ntmps32
  go_wp2_with fail
  go_ret
  exact ⟨rfl, rfl⟩
theorem bAllNil (w : World) : Calls Try.prog 32 #[.pointer none] w fun e w' => e = .returned (.slice none 0 0) ∧ w = w' := by
  go_enter Try.func32, Try.ntmps32
  go_wp2_with fail
  go_ret
  exact ⟨rfl, rfl⟩
theorem bLen (h : BkAt w p g n q t) : Calls Try.prog 19 #[.pointer (some ⟨p, 0, none⟩)] w fun e w' => e = .returned (.int .i64 n) ∧ w = w' := by
  go_enter Try.func19, Try.ntmps19
  go_wp2_with fail
  refine (bAll h).mono ?_
  rintro e w1 ⟨rfl, rfl⟩
  go_wp2_with fail
  go_ret
  exact ⟨rfl, rfl⟩
theorem bLenNil (w : World) : Calls Try.prog 19 #[.pointer none] w fun e w' => e = .returned (.int .i64 0) ∧ w = w' := by
  go_enter Try.func19, Try.ntmps19
  go_wp2_with fail
  refine (bAllNil w).mono ?_
  rintro e w1 ⟨rfl, rfl⟩
  go_wp2_with fail
  go_ret
  exact ⟨rfl, rfl⟩
theorem bTick (h : BkAt w p g n q t) (N : Int) (n0 : 0 ≤ N) (n1 : N < 18446744073709551616) :
    Calls Try.prog 14 #[.pointer (some ⟨p, 0, none⟩), .int .u64 N] w fun e w' => e = .returned (.tuple #[]) ∧ BkAt w' p g n q (fun i => (t i).tick N) ∧ Off (own n q) w w' := by
  have n8 := h.rm.n8
  go_enter Try.func14, Try.ntmps14
  go_wp2_with fail
  refine (bAll h).mono ?_
  rintro e w1 ⟨rfl, rfl⟩
  go_wp2_with fail
  go_loopw [9] (fun i wr => ∃ k : Nat, k ≤ n ∧ i = .int .i64 k ∧ BkAt wr p g n q (fun i => if i < k then (t i).tick N else t i) ∧ Off (own n q) w wr) (fun i wr => n - (intOf i).toNat)
  case atStart => exact ⟨0, by omega, rfl, h.congr (fun i _ => by simp), Off.refl _ _⟩
  case round =>
    obtain ⟨k, hk, rfl, H, ho⟩ := hrel
    by_cases hlt : k < n
    · have hc := H.get hlt
      have ht := H.rm.tms k hlt
      have ok := H.rm.ok k hlt
      simp only [Nat.lt_irrefl, if_false] at ht ok
      have HH := Lib.hid H
      have HO := Lib.hid ho
      clear H ho h
      go_wp2_with fail
      refine (nTick (t k) N (q k) wr ok ht n0 n1).mono ?_
      rintro e w2 ⟨rfl, a2, ho2⟩
      have H2 := (HH.out.turn hlt a2 (Tm.tick_ok ok n0) ho2).congr (s := fun i => if i < k + 1 then (t i).tick N else t i) (fun i _ => upd_step t (fun x => x.tick N) k i)
      have HO2 := HO.out.trans (ho2.own hlt)
      clear HH HO ho2 a2 ht ok hc
      go_wp2_with fail
      go_roundw
      case rel => exact ⟨k + 1, by omega, by go_num, H2, HO2⟩
      case measure => simp [intOf]; omega
    · obtain rfl : k = n := by omega
      go_wp2_with fail
      go_end0
      exact ⟨rfl, H.congr (fun i hi => if_pos hi), ho⟩
theorem bTickNil (N : Int) (w : World) : Calls Try.prog 14 #[.pointer none, .int .u64 N] w fun e w' => e = .returned (.tuple #[]) ∧ w = w' := by
  go_enter Try.func14, Try.ntmps14
  go_wp2_with fail
  refine (bAllNil w).mono ?_
  rintro e w1 ⟨rfl, rfl⟩
  go_wp2_with fail
  refine wp_loop_rounds 1 ?_
  rw [rounds_succ]
  go_wp2_with fail
  go_end0
  exact ⟨rfl, rfl⟩
theorem bReset (h : BkAt w p g n q t) :
    Calls Try.prog 18 #[.pointer (some ⟨p, 0, none⟩)] w fun e w' => e = .returned (.tuple #[]) ∧ BkAt w' p g n q (fun i => tz) ∧ Off (own n q) w w' := by
  have n8 := h.rm.n8
  go_enter Try.func18, Try.ntmps18
  go_wp2_with fail
  refine (bAll h).mono ?_
  rintro e w1 ⟨rfl, rfl⟩
  go_wp2_with fail
  go_loopw [7] (fun i wr => ∃ k : Nat, k ≤ n ∧ i = .int .i64 k ∧ BkAt wr p g n q (fun i => if i < k then tz else t i) ∧ Off (own n q) w wr) (fun i wr => n - (intOf i).toNat)
  case atStart => exact ⟨0, by omega, rfl, h.congr (fun i _ => by simp), Off.refl _ _⟩
  case round =>
    obtain ⟨k, hk, rfl, H, ho⟩ := hrel
    by_cases hlt : k < n
    · have hc := H.get hlt
      have ht := H.rm.tms k hlt
      simp only [Nat.lt_irrefl, if_false] at ht
      have HH := Lib.hid H
      have HO := Lib.hid ho
      clear H ho h
      go_wp2_with fail
      refine (nReset (t k) (q k) wr ht).mono ?_
      rintro e w2 ⟨rfl, rfl⟩
      have ho2 := off_row wr (q k) (wl tz).toArray
      have H2 := (HH.out.turn hlt (TAt.row ht tz) tz_ok ho2).congr (s := fun i => if i < k + 1 then tz else t i) (fun i _ => upd_step t (fun _ => tz) k i)
      have HO2 := HO.out.trans (ho2.own hlt)
      clear HH HO ho2 ht hc
      generalize wr.setRow (q k) (wl tz).toArray = W2 at *
      go_wp2_with fail
      go_roundw
      case rel => exact ⟨k + 1, by omega, by go_num, H2, HO2⟩
      case measure => simp [intOf]; omega
    · obtain rfl : k = n := by omega
      go_wp2_with fail
      go_end0
      exact ⟨rfl, H.congr (fun i hi => if_pos hi), ho⟩
theorem bResetNil (w : World) : Calls Try.prog 18 #[.pointer none] w fun e w' => e = .returned (.tuple #[]) ∧ w = w' := by
  go_enter Try.func18, Try.ntmps18
  go_wp2_with fail
  refine (bAllNil w).mono ?_
  rintro e w1 ⟨rfl, rfl⟩
  go_wp2_with fail
  refine wp_loop_rounds 1 ?_
  rw [rounds_succ]
  go_wp2_with fail
  go_end0
  exact ⟨rfl, rfl⟩
theorem bAskLine (h : BkAt w p g n q t) :
    Calls Try.prog 34 #[.pointer (some ⟨p, 0, none⟩), .func (.func 39) #[] #[]] w fun e w' => e = .returned (.int .u32 (ob (fun i => (t i).st && (t i).iq) n)) ∧ Below w.heap.size w w' := by
  have n8 := h.rm.n8
  go_enter Try.func34, Try.ntmps34
  go_wp2_with fail
  refine (bAll h).mono ?_
  rintro e w1 ⟨rfl, rfl⟩
  go_wp2_with fail
  go_loopw [5, 11] (fun a i wr => ∃ (k : Nat) (X : Int), k ≤ n ∧ i = .int .i64 k ∧ a = .int .u32 X ∧ 0 ≤ X ∧ X < 4294967296 ∧ Hid (X = ob (fun i => (t i).st && (t i).iq) k) ∧ BkAt wr p g n q t ∧ Below w.heap.size w wr) (fun a i wr => n - (intOf i).toNat)
  case atStart => exact ⟨0, 0, by omega, rfl, rfl, by omega, by omega, Lib.hid rfl, h, tr0 w⟩
  case round =>
    clear h
    obtain ⟨k, X, hk, rfl, rfl, X0, X1, hX, H, hB⟩ := hrel
    by_cases hlt : k < n
    · have hc := H.get hlt
      have ht := H.rm.tms k hlt
      have ok := H.rm.ok k hlt
      have HH := Lib.hid H
      have ho := or_un (fun i => (t i).st && (t i).iq) k (by omega)
      have hbd := ob_bounds (fun i => (t i).st && (t i).iq) (k + 1) (by omega)
      have hun := un_bounds k
      rw [← hX.out] at ho
      have hy := ob_yes (fun i => (t i).st && (t i).iq) k (by omega)
      have hno := ob_no (fun i => (t i).st && (t i).iq) k
      obtain ⟨f, hf⟩ : ∃ f, ((t k).st && (t k).iq) = f := ⟨_, rfl⟩
      have C := nLine (t k) (q k) wr ok ht
      rw [hf] at C
      rw [hf] at hy hno
      have HY := Lib.hid hy
      have HN := Lib.hid hno
      have HB := Lib.hid hbd
      clear H hf hy hno hbd
      cases f
      · go_wp2_with fail
        refine C.mono ?_
        rintro e w2 ⟨rfl, hb⟩
        have H2 := HH.out.below hb
        have hB2 := tr hB hb
        clear HH hc ht hb ho hun C
        go_wp2_with fail
        go_roundw
        case rel => exact ⟨k + 1, X, by omega, by go_num, rfl, X0, X1, Lib.hid (by rw [HN.out (by simp)]; exact hX.out), H2, hB2⟩
        case measure => simp [intOf]; omega
      · have HO := Lib.hid ho
        clear ho
        go_wp2_with fail
        refine C.mono ?_
        rintro e w2 ⟨rfl, hb⟩
        have H2 := HH.out.below hb
        have hB2 := tr hB hb
        clear HH hc ht hb C
        go_wp2_with fail
        go_roundw
        case rel => exact ⟨k + 1, ob (fun i => (t i).st && (t i).iq) (k + 1), by omega, by go_num, by rw [HY.out (by simp), ← hX.out, ← HO.out]; rfl, HB.out.1, HB.out.2, Lib.hid rfl, H2, hB2⟩
        case measure => simp [intOf]; omega
    · obtain rfl : k = n := by omega
      go_wp2_with fail
      go_ret
      exact ⟨ret_int hX.out, hB⟩
theorem bLines (h : BkAt w p g n q t) :
    Calls Try.prog 20 #[.pointer (some ⟨p, 0, none⟩)] w fun e w' => e = .returned (.int .u32 (ob (fun i => (t i).st && (t i).iq) n)) ∧ Below w.heap.size w w' := by
  go_enter Try.func20, Try.ntmps20
  go_wp2_with fail
  refine (bAskLine h).mono ?_
  rintro e w1 ⟨rfl, hb⟩
  go_wp2_with fail
  go_ret
  exact ⟨rfl, hb⟩
theorem bAskLineNil (w : World) :
    Calls Try.prog 34 #[.pointer none, .func (.func 39) #[] #[]] w fun e w' => e = .returned (.int .u32 0) ∧ w = w' := by
  go_enter Try.func34, Try.ntmps34
  go_wp2_with fail
  refine (bAllNil w).mono ?_
  rintro e w1 ⟨rfl, rfl⟩
  go_wp2_with fail
  refine wp_loop_rounds 1 ?_
  rw [rounds_succ]
  go_wp2_with fail
  go_ret
  exact ⟨rfl, rfl⟩
theorem bLinesNil (w : World) : Calls Try.prog 20 #[.pointer none] w fun e w' => e = .returned (.int .u32 0) ∧ w = w' := by
  go_enter Try.func20, Try.ntmps20
  go_wp2_with fail
  refine (bAskLineNil w).mono ?_
  rintro e w1 ⟨rfl, rfl⟩
  go_wp2_with fail
  go_ret
  exact ⟨rfl, rfl⟩
theorem bAskRuns (h : BkAt w p g n q t) :
    Calls Try.prog 34 #[.pointer (some ⟨p, 0, none⟩), .func (.func 35) #[] #[]] w fun e w' => e = .returned (.int .u32 (ob (fun i => (t i).en) n)) ∧ Below w.heap.size w w' := by
  have n8 := h.rm.n8
  go_enter Try.func34, Try.ntmps34
  go_wp2_with fail
  refine (bAll h).mono ?_
  rintro e w1 ⟨rfl, rfl⟩
  go_wp2_with fail
  go_loopw [5, 11] (fun a i wr => ∃ (k : Nat) (X : Int), k ≤ n ∧ i = .int .i64 k ∧ a = .int .u32 X ∧ 0 ≤ X ∧ X < 4294967296 ∧ Hid (X = ob (fun i => (t i).en) k) ∧ BkAt wr p g n q t ∧ Below w.heap.size w wr) (fun a i wr => n - (intOf i).toNat)
  case atStart => exact ⟨0, 0, by omega, rfl, rfl, by omega, by omega, Lib.hid rfl, h, tr0 w⟩
  case round =>
    clear h
    obtain ⟨k, X, hk, rfl, rfl, X0, X1, hX, H, hB⟩ := hrel
    by_cases hlt : k < n
    · have hc := H.get hlt
      have ht := H.rm.tms k hlt
      have ok := H.rm.ok k hlt
      have HH := Lib.hid H
      have ho := or_un (fun i => (t i).en) k (by omega)
      have hbd := ob_bounds (fun i => (t i).en) (k + 1) (by omega)
      have hun := un_bounds k
      rw [← hX.out] at ho
      have hy := ob_yes (fun i => (t i).en) k (by omega)
      have hno := ob_no (fun i => (t i).en) k
      obtain ⟨f, hf⟩ : ∃ f, ((t k).en) = f := ⟨_, rfl⟩
      have C := nRuns (t k) (q k) wr ok ht
      rw [hf] at C
      rw [hf] at hy hno
      have HY := Lib.hid hy
      have HN := Lib.hid hno
      have HB := Lib.hid hbd
      clear H hf hy hno hbd
      cases f
      · go_wp2_with fail
        refine C.mono ?_
        rintro e w2 ⟨rfl, hb⟩
        have H2 := HH.out.below hb
        have hB2 := tr hB hb
        clear HH hc ht hb ho hun C
        go_wp2_with fail
        go_roundw
        case rel => exact ⟨k + 1, X, by omega, by go_num, rfl, X0, X1, Lib.hid (by rw [HN.out (by simp)]; exact hX.out), H2, hB2⟩
        case measure => simp [intOf]; omega
      · have HO := Lib.hid ho
        clear ho
        go_wp2_with fail
        refine C.mono ?_
        rintro e w2 ⟨rfl, hb⟩
        have H2 := HH.out.below hb
        have hB2 := tr hB hb
        clear HH hc ht hb C
        go_wp2_with fail
        go_roundw
        case rel => exact ⟨k + 1, ob (fun i => (t i).en) (k + 1), by omega, by go_num, by rw [HY.out (by simp), ← hX.out, ← HO.out]; rfl, HB.out.1, HB.out.2, Lib.hid rfl, H2, hB2⟩
        case measure => simp [intOf]; omega
    · obtain rfl : k = n := by omega
      go_wp2_with fail
      go_ret
      exact ⟨ret_int hX.out, hB⟩
theorem bRuns (h : BkAt w p g n q t) :
    Calls Try.prog 13 #[.pointer (some ⟨p, 0, none⟩)] w fun e w' => e = .returned (.int .u32 (ob (fun i => (t i).en) n)) ∧ Below w.heap.size w w' := by
  go_enter Try.func13, Try.ntmps13
  go_wp2_with fail
  refine (bAskRuns h).mono ?_
  rintro e w1 ⟨rfl, hb⟩
  go_wp2_with fail
  go_ret
  exact ⟨rfl, hb⟩
theorem bAskRunsNil (w : World) :
    Calls Try.prog 34 #[.pointer none, .func (.func 35) #[] #[]] w fun e w' => e = .returned (.int .u32 0) ∧ w = w' := by
  go_enter Try.func34, Try.ntmps34
  go_wp2_with fail
  refine (bAllNil w).mono ?_
  rintro e w1 ⟨rfl, rfl⟩
  go_wp2_with fail
  refine wp_loop_rounds 1 ?_
  rw [rounds_succ]
  go_wp2_with fail
  go_ret
  exact ⟨rfl, rfl⟩
theorem bRunsNil (w : World) : Calls Try.prog 13 #[.pointer none] w fun e w' => e = .returned (.int .u32 0) ∧ w = w' := by
  go_enter Try.func13, Try.ntmps13
  go_wp2_with fail
  refine (bAskRunsNil w).mono ?_
  rintro e w1 ⟨rfl, rfl⟩
  go_wp2_with fail
  go_ret
  exact ⟨rfl, rfl⟩
end
end Go.Proofs.Ytijjapmdkalfaaa.B
