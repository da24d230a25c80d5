/- Package clint: New, Reset, Harts, Time, Compare, Tick, Line, Soft. -/
import Derived.Test.YtfkkimbdjobpmaaClint
namespace Go.Proofs.Ytfkkimbdjobpmaa.B
set_option linter.unusedVariables false
set_option linter.unusedSimpArgs false
open Go.ChangeShapes Go.WideShapes Go.RowKit Go.Sort Go.MapKept
def never : Int := 18446744073709551615
/-- The first k are Never, and without a bit. -/
def rsD (D : Nat → Int) (k : Nat) : Nat → Int := fun i => if i < k then 18446744073709551615 else D i
def rsS (S : Nat → Int) (k : Nat) : Nat → Int := fun i => if i < k then 0 else S i
theorem rsD_zero (D : Nat → Int) : rsD D 0 = D := by funext i; simp [rsD]
theorem rsS_zero (S : Nat → Int) : rsS S 0 = S := by funext i; simp [rsS]
theorem rsD_succ (D : Nat → Int) (k : Nat) : upd (rsD D k) k 18446744073709551615 = rsD D (k + 1) := by
  funext i; unfold upd rsD
  by_cases e : i = k
  · subst e; simp
  · rw [if_neg e]; simp only [show (i < k + 1) = (i < k) from propext (by omega)]
theorem rsS_succ (S : Nat → Int) (k : Nat) : upd (rsS S k) k 0 = rsS S (k + 1) := by
  funext i; unfold upd rsS
  by_cases e : i = k
  · subst e; simp
  · rw [if_neg e]; simp only [show (i < k + 1) = (i < k) from propext (by omega)]
theorem CAt.swapDS {w : World} {p m n i : Nat} {t : Int} {D S : Nat → Int} (h : CAt w p m t n D S) (hi : i < 8) :
    CAt ((w.setCell ⟨p, 2 + i, none⟩ (.int .u64 18446744073709551615)).setCell ⟨p, 10 + i, none⟩ (.int .u32 0)) p m t n (upd D i 18446744073709551615) (upd S i 0) :=
  (h.setD i hi (by omega) (by omega)).setS i hi (by omega) (by omega)
theorem CAt.swapSD {w : World} {p m n i : Nat} {t : Int} {D S : Nat → Int} (h : CAt w p m t n D S) (hi : i < 8) :
    CAt ((w.setCell ⟨p, 10 + i, none⟩ (.int .u32 0)).setCell ⟨p, 2 + i, none⟩ (.int .u64 18446744073709551615)) p m t n (upd D i 18446744073709551615) (upd S i 0) :=
  (h.setS i hi (by omega) (by omega)).setD i hi (by omega) (by omega)
theorem CAt.drew {w : World} {p m n : Nat} {t : Int} {D S : Nat → Int} (h : CAt w p m t n D S) : CAt w.drew p m t n D S := h.kept rfl rfl
theorem off_drew {X : Nat → Prop} (w : World) : Off X w w.drew := ⟨rfl, rfl, rfl, Nat.le_refl _, fun _ _ _ => rfl⟩
theorem cResetNil (w : World) : Calls Try.prog 15 #[.pointer none] w fun e w' => e = .returned (.tuple #[]) ∧ w = w' := by
  go_enter Try.func15, Try.ntmps15
  go_wp2_with fail
  refine bodyPost_ret (v := .tuple #[]) ?_ rfl ⟨rfl, rfl⟩
  simp [results, Try.results15, go_sem]
theorem cReset (t : Int) (n : Nat) (D S : Nat → Int) (p m : Nat) (w : World) (h : CAt w p m t n D S) :
    Calls Try.prog 15 #[.pointer (some ⟨p, 0, none⟩)] w
      fun e w' => e = .returned (.tuple #[]) ∧ CAt w' p m t n (rsD D 8) (rsS S 8) ∧ Off (· = p) w w' := by
  have H := Lib.hid h
  clear h
  go_enter Try.func15, Try.ntmps15
  go_wp2_with fail
  go_loopw [5] (fun i wr => ∃ k : Nat, k ≤ 8 ∧ i = .int .i64 k ∧ CAt wr p m t n (rsD D k) (rsS S k) ∧ Off (· = p) w wr) (fun i _ => 8 - (intOf i).toNat)
  case atStart => exact ⟨0, by omega, rfl, by rw [rsD_zero, rsS_zero]; exact H.out, Off.refl _ _⟩
  case round =>
    obtain ⟨k, hk, rfl, hC, ho⟩ := hrel
    by_cases hlt : k < 8
    · have c1 := hC.cD k hlt
      have c2 := hC.cS k hlt
      have f1 := hC.free (2 + k)
      have f2 := hC.free (10 + k)
      have H1 := Lib.hid (hC.drew.swapDS hlt)
      have H2 := Lib.hid (hC.drew.swapSD hlt)
      have O1 := Lib.hid ((ho.trans (off_drew wr)).trans ((off_set wr.drew p (2 + k) (.int .u64 18446744073709551615)).trans (off_set _ p (10 + k) (.int .u32 0))))
      have O2 := Lib.hid ((ho.trans (off_drew wr)).trans ((off_set wr.drew p (10 + k) (.int .u32 0)).trans (off_set _ p (2 + k) (.int .u64 18446744073709551615))))
      have E1 := Lib.hid (rsD_succ D k)
      have E2 := Lib.hid (rsS_succ S k)
      clear hC ho
      go_wp2_with fail
      go_region
      all_goals
        go_wp2_with fail
        go_roundw
        case rel => exact ⟨k + 1, by omega, by go_num, by rw [← E1.out, ← E2.out]; first | exact H1.out | exact H2.out, by first | exact O1.out | exact O2.out⟩
        case measure => simp [intOf]; omega
    · obtain rfl : k = 8 := by omega
      go_wp2_with fail
      go_end0
      exact ⟨rfl, hC, ho⟩
/-- All Never; all 0. -/
def nvD : Nat → Int := fun _ => 18446744073709551615
def zeS : Nat → Int := fun _ => 0
theorem CAt.congr {w : World} {p m n : Nat} {t : Int} {D S D' S' : Nat → Int} (h : CAt w p m t n D S) (hd : ∀ i, i < 8 → D i = D' i) (hs : ∀ i, i < 8 → S i = S' i) (hD : okD D') (hS : okS S') : CAt w p m t n D' S' :=
  ⟨by rw [h.cell]; unfold ccl; rw [il_congr _ _ _ _ hd, il_congr _ _ _ _ hs], h.map, h.t0, h.t1, h.n0, h.n1, hD, hS⟩
theorem okD_nv : okD nvD := fun _ => by unfold nvD; omega
theorem okS_ze : okS zeS := fun _ => by unfold zeS; omega
theorem cReset8 (t : Int) (n : Nat) (D S : Nat → Int) (p m : Nat) (w : World) (h : CAt w p m t n D S) :
    Calls Try.prog 15 #[.pointer (some ⟨p, 0, none⟩)] w
      fun e w' => e = .returned (.tuple #[]) ∧ CAt w' p m t n nvD zeS ∧ Off (· = p) w w' :=
  (cReset t n D S p m w h).mono fun e w' g => ⟨g.1, g.2.1.congr (fun i hi => by unfold rsD nvD; rw [if_pos hi]) (fun i hi => by unfold rsS zeS; rw [if_pos hi]) okD_nv okS_ze, g.2.2⟩
theorem cNewBad (n : Int) (w : World) (h : n < 1 ∨ 8 < n) : Calls Try.prog 6 #[.int .i64 n] w fun e w' => e = .returned (.tuple #[.pointer none, .int .i64 5]) ∧ w = w' := by
  rcases h with h | h
  all_goals
    go_enter Try.func6, Try.ntmps6
    go_wp2_with fail
    go_ret2
    exact ⟨rfl, rfl⟩
def CNew (w : World) (n : Nat) (e : Ending) (w' : World) : Prop :=
  ∃ p, w.heap.size ≤ p ∧ e = .returned (.tuple #[.pointer (some ⟨p, 0, none⟩), .int .i64 0]) ∧ CAt w' p w.heap.size 0 n nvD zeS ∧ Below w.heap.size w w'
theorem cNew (n : Nat) (w : World) (h1 : 1 ≤ n) (h8 : n ≤ 8) : Calls Try.prog 6 #[.int .i64 n] w (CNew w n) := by
  go_enter Try.func6, Try.ntmps6
  go_wp2_with fail
  refine (cLayout n w h8).mono ?_
  rintro e w1 ⟨rfl, hM, hb⟩
  go_wp2_with fail
  have hC : CAt (w1.alloc (.cells (ccl 0 n zeS zeS w.heap.size).toArray 60)) w1.heap.size w.heap.size 0 n zeS zeS :=
    ⟨blk_new _ _, hM.kept (blk_old _ _ hM.lt), by omega, by omega, h1, h8, fun _ => by unfold zeS; omega, okS_ze⟩
  have hb1 := trA hb (.cells (ccl 0 n zeS zeS w.heap.size).toArray 60)
  have hp : w.heap.size ≤ w1.heap.size := hb.size
  refine (cReset8 0 n zeS zeS _ _ _ hC).mono ?_
  rintro e w2 ⟨rfl, hC2, ho2⟩
  go_wp2_with fail
  go_ret2
  exact ⟨_, hp, rfl, hC2, Off.toBelow hb1 ho2 (fun _ h => by omega) (Nat.le_refl _)⟩
theorem cHarts (t : Int) (n : Nat) (D S : Nat → Int) (p m : Nat) (w : World) (h : CAt w p m t n D S) :
    Calls Try.prog 22 #[.pointer (some ⟨p, 0, none⟩)] w fun e w' => e = .returned (.int .i64 n) ∧ w = w' := by
  have c1 := h.c1
  clear h
  go_enter Try.func22, Try.ntmps22
  go_wp2_with fail
  go_ret
  exact ⟨rfl, rfl⟩
theorem cHartsNil (w : World) : Calls Try.prog 22 #[.pointer none] w fun e w' => e = .returned (.int .i64 0) ∧ w = w' := by
  go_enter Try.func22, Try.ntmps22
  go_wp2_with fail
  go_ret
  exact ⟨rfl, rfl⟩
theorem cTime (t : Int) (n : Nat) (D S : Nat → Int) (p m : Nat) (w : World) (h : CAt w p m t n D S) :
    Calls Try.prog 20 #[.pointer (some ⟨p, 0, none⟩)] w fun e w' => e = .returned (.int .u64 t) ∧ w = w' := by
  have c1 := h.c0
  clear h
  go_enter Try.func20, Try.ntmps20
  go_wp2_with fail
  go_ret
  exact ⟨rfl, rfl⟩
theorem cTimeNil (w : World) : Calls Try.prog 20 #[.pointer none] w fun e w' => e = .returned (.int .u64 0) ∧ w = w' := by
  go_enter Try.func20, Try.ntmps20
  go_wp2_with fail
  go_ret
  exact ⟨rfl, rfl⟩
def isHart (n : Nat) (h : Int) : Bool := decide (0 ≤ h ∧ h < (n : Int))
theorem cIsHart (h t : Int) (n : Nat) (D S : Nat → Int) (p m : Nat) (w : World) (hc : CAt w p m t n D S) :
    Calls Try.prog 40 #[.pointer (some ⟨p, 0, none⟩), .int .i64 h] w fun e w' => e = .returned (.bool (isHart n h)) ∧ w = w' := by
  by_cases h0 : 0 ≤ h
  · by_cases h1 : h < (n : Int)
    · rw [show isHart n h = true from decide_eq_true ⟨h0, h1⟩]
      go_enter Try.func40, Try.ntmps40
      go_wp2_with (go_at_call 22; refine (cHarts _ _ _ _ _ _ _ hc).mono ?_; rintro e w' ⟨rfl, rfl⟩)
      go_ret
      exact ⟨rfl, rfl⟩
    · rw [show isHart n h = false from decide_eq_false (fun e => h1 e.2)]
      go_enter Try.func40, Try.ntmps40
      go_wp2_with (go_at_call 22; refine (cHarts _ _ _ _ _ _ _ hc).mono ?_; rintro e w' ⟨rfl, rfl⟩)
      go_ret
      exact ⟨ret_bool (decide_eq_false (by omega)), rfl⟩
  · rw [show isHart n h = false from decide_eq_false (fun e => h0 e.1)]
    go_enter Try.func40, Try.ntmps40
    go_wp2_with fail
    go_ret
    exact ⟨rfl, rfl⟩
theorem cIsHartNil (h : Int) (w : World) :
    Calls Try.prog 40 #[.pointer none, .int .i64 h] w fun e w' => e = .returned (.bool false) ∧ w = w' := by
  by_cases h0 : 0 ≤ h
  all_goals
    go_enter Try.func40, Try.ntmps40
    go_wp2_with (go_at_call 22; refine (cHartsNil _).mono ?_; rintro e w' ⟨rfl, rfl⟩)
    go_ret
    first | exact ⟨rfl, rfl⟩ | exact ⟨ret_bool (decide_eq_false (by omega)), rfl⟩
def cCmp (n : Nat) (D : Nat → Int) (h : Int) : Int := if isHart n h = true then D h.toNat else 18446744073709551615
theorem cCompare (h t : Int) (n : Nat) (D S : Nat → Int) (p m : Nat) (w : World) (hc : CAt w p m t n D S) :
    Calls Try.prog 21 #[.pointer (some ⟨p, 0, none⟩), .int .i64 h] w fun e w' => e = .returned (.int .u64 (cCmp n D h)) ∧ w = w' := by
  have hn := hc.n1
  cases hb : isHart n h
  · rw [show cCmp n D h = 18446744073709551615 by unfold cCmp; rw [hb]; rfl]
    have HB := Lib.hid hb
    clear hb
    go_enter Try.func21, Try.ntmps21
    go_wp2_with (go_at_call 40; refine (cIsHart _ _ _ _ _ _ _ _ hc).mono ?_; rw [HB.out]; rintro e w' ⟨rfl, rfl⟩)
    go_ret
    exact ⟨rfl, rfl⟩
  · have hh : 0 ≤ h ∧ h < (n : Int) := by unfold isHart at hb; simpa using hb
    obtain ⟨k, rfl⟩ := Int.eq_ofNat_of_zero_le hh.1
    rw [show cCmp n D (k : Int) = D k by unfold cCmp; rw [if_pos hb]; rfl]
    have hk : k < 8 := by omega
    have c := hc.cD k hk
    have HB := Lib.hid hb
    clear hb hh
    go_enter Try.func21, Try.ntmps21
    go_wp2_with (go_at_call 40; refine (cIsHart _ _ _ _ _ _ _ _ hc).mono ?_; rw [HB.out]; rintro e w' ⟨rfl, rfl⟩)
    go_ret
    exact ⟨rfl, rfl⟩
theorem cCompareNil (h : Int) (w : World) :
    Calls Try.prog 21 #[.pointer none, .int .i64 h] w fun e w' => e = .returned (.int .u64 18446744073709551615) ∧ w = w' := by
  go_enter Try.func21, Try.ntmps21
  go_wp2_with (go_at_call 40; refine (cIsHartNil _ _).mono ?_; rintro e w' ⟨rfl, rfl⟩)
  go_ret
  exact ⟨rfl, rfl⟩
theorem cTick (v t : Int) (n : Nat) (D S : Nat → Int) (p m : Nat) (w : World) (hc : CAt w p m t n D S) (v0 : 0 ≤ v) (v1 : v < 18446744073709551616) :
    Calls Try.prog 9 #[.pointer (some ⟨p, 0, none⟩), .int .u64 v] w fun e w' => e = .returned (.tuple #[]) ∧ CAt w' p m (addS t v) n D S ∧ Off (· = p) w w' := by
  have c := hc.c0
  have f := hc.free 0
  have t0 := hc.t0
  have t1 := hc.t1
  have b := addS_bounds t0 t1 v0 v1
  go_enter Try.func9, Try.ntmps9
  go_wp2_with (go_at_call 25; refine (Add _ _ _ t0 t1 v0 v1).mono ?_; rintro e w' ⟨rfl, rfl⟩)
  go_end0
  exact ⟨rfl, hc.setT b.1 b.2, off_set _ _ _ _⟩
theorem cTickNil (v : Int) (w : World) : Calls Try.prog 9 #[.pointer none, .int .u64 v] w fun e w' => e = .returned (.tuple #[]) ∧ w = w' := by
  go_enter Try.func9, Try.ntmps9
  go_wp2_with fail
  refine bodyPost_ret (v := .tuple #[]) ?_ rfl ⟨rfl, rfl⟩
  simp [results, Try.results9, go_sem]
end Go.Proofs.Ytfkkimbdjobpmaa.B
