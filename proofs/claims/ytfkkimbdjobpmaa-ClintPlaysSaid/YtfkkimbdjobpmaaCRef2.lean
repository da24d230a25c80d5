/- The document's own answers of layer 5: Tick, Reset, New, Compare, Line. -/
import Derived.Test.YtfkkimbdjobpmaaCRef
namespace Go.Proofs.Ytfkkimbdjobpmaa.B
set_option linter.unusedVariables false
set_option linter.unusedSimpArgs false
open Go.ChangeShapes Go.WideShapes Go.RowKit Go.Sort
theorem zerosC : (#[.int .u64 0, .int .u32 0, .int .u32 0, .int .u32 0, .int .u32 0, .int .u32 0, .int .u32 0, .int .u32 0, .int .u32 0, .int .u32 0, .int .u32 0, .int .u32 0, .int .u32 0, .int .u32 0, .int .u32 0, .int .u32 0, .int .u32 0, .int .u32 0, .int .u32 0, .int .u32 0, .int .u32 0, .int .u32 0, .int .u32 0, .int .u32 0, .int .u32 0, .int .i64 0] : Array Value) = (rcr 0 0 zeS zeS zeS).toArray := rfl
def zC : Obj := .cells #[.int .u64 0, .int .u32 0, .int .u32 0, .int .u32 0, .int .u32 0, .int .u32 0, .int .u32 0, .int .u32 0, .int .u32 0, .int .u32 0, .int .u32 0, .int .u32 0, .int .u32 0, .int .u32 0, .int .u32 0, .int .u32 0, .int .u32 0, .int .u32 0, .int .u32 0, .int .u32 0, .int .u32 0, .int .u32 0, .int .u32 0, .int .u32 0, .int .u32 0, .int .i64 0] 32
theorem zC_eq : Obj.cells #[.int .u64 0, .int .u32 0, .int .u32 0, .int .u32 0, .int .u32 0, .int .u32 0, .int .u32 0, .int .u32 0, .int .u32 0, .int .u32 0, .int .u32 0, .int .u32 0, .int .u32 0, .int .u32 0, .int .u32 0, .int .u32 0, .int .u32 0, .int .u32 0, .int .u32 0, .int .u32 0, .int .u32 0, .int .u32 0, .int .u32 0, .int .u32 0, .int .u32 0, .int .i64 0] 32 = zC := rfl
theorem rcTick (v t : Int) (n : Nat) (A B S : Nat → Int) (w : World) (t0 : 0 ≤ t) (t1 : t < 18446744073709551616) (v0 : 0 ≤ v) (v1 : v < 18446744073709551616) :
    Calls Try.prog 10 #[.agg (rcr t n A B S).toArray, .int .u64 v] w fun e w' => e = .returned (.agg (rcr (addS t v) n A B S).toArray) ∧ Below w.heap.size w w' := by
  go_enter Try.func10, Try.ntmps10
  have h0 : RcAt ((w.alloc (.cells (rcr t n A B S).toArray 32)).alloc zC) w.heap.size t n A B S := b2_0 w _ _
  have h1 : RcAt ((w.alloc (.cells (rcr t n A B S).toArray 32)).alloc zC) (w.heap.size + 1) 0 0 zeS zeS zeS := b2_1 w _ _
  have hb := trA (trA (tr0 w) (.cells (rcr t n A B S).toArray 32)) zC
  go_upto_region 1 with (fail)
  rw [zC_eq]
  generalize ((w.alloc (.cells (rcr t n A B S).toArray 32)).alloc zC) = W at *
  have c := h0.cT
  have f := h0.free 0
  have k0 := h0.setT (addS t v)
  have k1 := h1.other w.heap.size 0 (.int .u64 (addS t v)) (by omega)
  have hb2 := hb.setCell (p := ⟨w.heap.size, 0, none⟩) (Nat.le_refl _) (.int .u64 (addS t v))
  have K0 := Lib.hid k0
  have K1 := Lib.hid k1
  clear h0 h1 k0 k1
  go_wp2_with (first | (go_at_call 26; refine (rAdd _ _ _ t0 t1 v0 v1).mono ?_; rintro e w' ⟨rfl, rfl⟩) | (refine loadC rfl (.tmp 2) rfl rfl K0.out ?_) | (refine storeC rfl (.tmp 4) (.tmp 10) rfl rfl rfl K1.out (by rw [List.size_toArray, rcr_len]) ?_))
  exact bodyPost_ret (v := .agg (rcr (addS t v) n A B S).toArray) (resC Try.results10 _ _ rfl (RcAt.row K1.out)) rfl ⟨rfl, below_setRow hb2 _ (by omega)⟩
/-- The first k set. -/
def frs (c : Int) (A : Nat → Int) (k : Nat) : Nat → Int := fun i => if i < k then c else A i
theorem frs_zero (c : Int) (A : Nat → Int) : frs c A 0 = A := by funext i; simp [frs]
theorem frs_succ (c : Int) (A : Nat → Int) (k : Nat) : upd (frs c A k) k c = frs c A (k + 1) := by
  funext i; unfold upd frs
  by_cases e : i = k
  · subst e; simp
  · rw [if_neg e]; simp only [show (i < k + 1) = (i < k) from propext (by omega)]
theorem frs_all (c : Int) (A : Nat → Int) (i : Nat) (h : i < 8) : frs c A 8 i = c := by unfold frs; rw [if_pos h]
theorem rcReset (t : Int) (n : Nat) (A B S : Nat → Int) (w : World) :
    Calls Try.prog 16 #[.agg (rcr t n A B S).toArray] w fun e w' => e = .returned (.agg (rcl t n nvD zeS).toArray) ∧ Below w.heap.size w w' := by
  go_enter Try.func16, Try.ntmps16
  have h0 : RcAt ((w.alloc (.cells (rcr t n A B S).toArray 32)).alloc zC) w.heap.size t n A B S := b2_0 w _ _
  have h1 : RcAt ((w.alloc (.cells (rcr t n A B S).toArray 32)).alloc zC) (w.heap.size + 1) 0 0 zeS zeS zeS := b2_1 w _ _
  have hb := trA (trA (tr0 w) (.cells (rcr t n A B S).toArray 32)) zC
  go_wp2_with fail
  rw [zC_eq]
  generalize ((w.alloc (.cells (rcr t n A B S).toArray 32)).alloc zC) = W at *
  go_loopw [3] (fun i wr => ∃ k : Nat, k ≤ 8 ∧ i = .int .i64 k ∧ RcAt wr w.heap.size t n (frs 4294967295 A k) (frs 4294967295 B k) (frs 0 S k) ∧ RcAt wr (w.heap.size + 1) 0 0 zeS zeS zeS ∧ Below w.heap.size w wr) (fun i _ => 8 - (intOf i).toNat)
  case atStart => exact ⟨0, by omega, rfl, by rw [frs_zero, frs_zero, frs_zero]; exact h0, h1, hb⟩
  case round =>
    clear h0 h1 hb
    obtain ⟨k, hk, rfl, h0, h1, hb⟩ := hrel
    by_cases hlt : k < 8
    · have g1 := h0.setL k 4294967295 hlt
      have g2 := g1.setH k 4294967295 hlt
      have g3 := g2.setS k 0 hlt
      rw [frs_succ, frs_succ, frs_succ] at g3
      have q := ((h1.other w.heap.size (1 + k) (.int .u32 4294967295) (by omega)).other w.heap.size (9 + k) (.int .u32 4294967295) (by omega)).other w.heap.size (17 + k) (.int .u32 0) (by omega)
      have b3 := ((hb.setCell (p := ⟨w.heap.size, 1 + k, none⟩) (Nat.le_refl _) (.int .u32 4294967295)).setCell (p := ⟨w.heap.size, 9 + k, none⟩) (Nat.le_refl _) (.int .u32 4294967295)).setCell (p := ⟨w.heap.size, 17 + k, none⟩) (Nat.le_refl _) (.int .u32 0)
      have G3 := Lib.hid g3
      have c1 := h0.cL k hlt
      have f1 := h0.free (1 + k)
      have c2 := h0.cH k hlt
      have f2 := h0.free (9 + k)
      have c3 := h0.cS k hlt
      have f3 := h0.free (17 + k)
      clear g1 g2 g3 h0 h1
      go_wp2_with fail
      go_roundw
      case rel => exact ⟨k + 1, by omega, by go_num, G3.out, q, b3⟩
      case measure => simp [intOf]; omega
    · obtain rfl : k = 8 := by omega
      have e : rcr t n (frs 4294967295 A 8) (frs 4294967295 B 8) (frs 0 S 8) = rcl t n nvD zeS := rcr_congr (fun i hi => by rw [frs_all _ _ _ hi]; rfl) (fun i hi => by rw [frs_all _ _ _ hi]; rfl) (fun i hi => by rw [frs_all _ _ _ hi]; rfl)
      have E := Lib.hid e
      clear e
      go_wp2_with (first | (refine loadC rfl (.tmp 1) rfl rfl h0 ?_) | (refine storeC rfl (.tmp 2) (.tmp 17) rfl rfl rfl h1 (by rw [List.size_toArray, rcr_len]) ?_))
      exact bodyPost_ret (v := .agg (rcr t n (frs 4294967295 A 8) (frs 4294967295 B 8) (frs 0 S 8)).toArray) (resC Try.results16 _ _ rfl (RcAt.row h1)) rfl ⟨by rw [E.out], below_setRow hb _ (by omega)⟩
theorem rcNew (n : Nat) (w : World) :
    Calls Try.prog 8 #[.int .i64 n] w fun e w' => e = .returned (.agg (rcl 0 n nvD zeS).toArray) ∧ Below w.heap.size w w' := by
  go_enter Try.func8, Try.ntmps8
  have h0 : RcAt (w.alloc zC) w.heap.size 0 0 zeS zeS zeS := blk_new w _
  have hb := trA (tr0 w) zC
  go_wp2_with fail
  rw [zC_eq]
  generalize w.alloc zC = W at *
  refine (rcReset 0 n zeS zeS zeS W).mono ?_
  rintro e w1 ⟨rfl, hb1⟩
  have h1 := h0.below hb1
  have hb2 := tr hb hb1
  clear h0 hb hb1
  unfold rcl
  go_wp2_with (refine storeC rfl (.tmp 2) (.tmp 5) rfl rfl rfl h1 (by rw [List.size_toArray, rcr_len]) ?_)
  exact bodyPost_ret (v := .agg (rcl 0 n nvD zeS).toArray) (resC Try.results8 _ _ rfl (RcAt.row h1)) rfl ⟨rfl, below_setRow hb2 _ (Nat.le_refl _)⟩
theorem rcCompare (h t : Int) (n : Nat) (D S : Nat → Int) (w : World) (n8 : n ≤ 8) (hD : okD D) :
    Calls Try.prog 36 #[.agg (rcl t n D S).toArray, .int .i64 h] w fun e w' => e = .returned (.int .u64 (cCmp n D h)) ∧ Below w.heap.size w w' := by
  unfold rcl
  have h0 : RcAt (w.alloc (.cells (rcr t n (fun i => lo (D i)) (fun i => hi (D i)) S).toArray 32)) w.heap.size t n (fun i => lo (D i)) (fun i => hi (D i)) S := blk_new w _
  have hb := trA (tr0 w) (.cells (rcr t n (fun i => lo (D i)) (fun i => hi (D i)) S).toArray 32)
  have hl := h0.lt
  have cN := h0.cN
  cases hq : isHart n h
  · rw [show cCmp n D h = 18446744073709551615 by unfold cCmp; rw [hq]; rfl]
    have hh : ¬ (0 ≤ h ∧ h < (n : Int)) := by unfold isHart at hq; simpa using hq
    by_cases hz : 0 ≤ h
    all_goals
      go_enter Try.func36, Try.ntmps36
      go_wp2_with fail
      go_ret
      exact ⟨rfl, hb⟩
  · have hh : 0 ≤ h ∧ h < (n : Int) := by unfold isHart at hq; simpa using hq
    obtain ⟨k, rfl⟩ := Int.eq_ofNat_of_zero_le hh.1
    have hk : k < 8 := by omega
    rw [show cCmp n D (k : Int) = D k by unfold cCmp; rw [if_pos hq]; rfl]
    have cL := h0.cL k hk
    have cH := h0.cH k hk
    have hg := gcell
    obtain ⟨d0, d1⟩ := hD k
    have HJ := Lib.hid (join_hi_lo (D k))
    have a0 := lo_nonneg (D k)
    have a1 := lo_lt (D k)
    have b0 := hi_nonneg d0
    have b1 := hi_lt d1
    have hkn : (k : Int) < n := hh.2
    clear hq hh hD
    go_enter Try.func36, Try.ntmps36
    go_upto_region 1 with (fail)
    generalize (w.alloc (.cells (rcr t n (fun i => lo (D i)) (fun i => hi (D i)) S).toArray 32)) = W at *
    go_wp2_with fail
    refine wp_region_quiet_below (by kernel_rfl) (by kernel_rfl) ?_
    repeat (go_big_quiet_step (first | (go_at_call 45; exact Calls.regrown_of ((rJoin _ _ _ b0 b1 a0 a1).mono fun _ _ g => ⟨g.1, g.2 ▸ tr0 _⟩))))
    refine wpQuiet_nil ?_
    intro _ hw'
    obtain ⟨⟨dq, osq⟩, hw''⟩ := hw'
    subst hw''
    go_wp2_with fail
    go_ret
    exact ⟨ret_int HJ.out, trG hb _ _⟩
end Go.Proofs.Ytfkkimbdjobpmaa.B
