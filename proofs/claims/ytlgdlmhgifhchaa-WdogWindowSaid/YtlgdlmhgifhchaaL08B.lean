/- The law WdogWindow: the window is kept. -/
import Derived.Test.YtlgdlmhgifhchaaL08
import Derived.Deep.Cut
namespace Go.Proofs.Ytlgdlmhgifhchaa.B
set_option linter.unusedVariables false
set_option linter.unusedSimpArgs false
open Go.ChangeShapes Go.WideShapes Go.RowKit Go.Sort Go.MapKept
/-- Enabled, with a window, fed so long ago. -/
def bS (lk ar : Bool) (c T n f : Int) : Wd := ⟨true, lk, ar, c, T, n, f⟩
def bC (c T : Int) : Wd := ⟨false, false, false, c, T, 0, 0⟩
theorem bC_ok {c T : Int} (c0 : 0 ≤ c) (c1 : c < 4294967296) (t0 : 0 ≤ T) (t1 : T < 4294967296) : (bC c T).ok := ⟨c0, c1, t0, t1, Int.le_refl _, t0, fun h => (by cases h), fun h => (by cases h), .inl rfl, fun _ => ⟨rfl, rfl, rfl⟩⟩
theorem bS_ok {lk ar : Bool} {c T n : Int} (c0 : 0 ≤ c) (cT : c < T) (t1 : T < 4294967296) (n0 : 0 ≤ n) (nT : n < T) : (bS lk ar c T n 0).ok :=
  ⟨c0, by show c < 4294967296; omega, by show 0 ≤ T; omega, t1, n0, by show n ≤ T; omega, fun _ _ => nT, fun _ => cT, .inl rfl, fun h => (by cases h)⟩
theorem b_closed (c : Int) : wz.sto 4 c = bC c 0 := rfl
theorem b_total (c T : Int) : (bC c 0).sto 8 T = bC c T := rfl
theorem b_on {c T : Int} (h : c < T) (lk : Bool) : (bC c T).sto 0 (1 + 2 * tk lk) = bS lk false c T 0 0 := by
  show (bC c T).ctlPut _ = _
  cases lk
  · exact ctl_on rfl rfl rfl h
  · exact ctl_on rfl rfl rfl h
theorem b_late {lk : Bool} {c T n : Int} (h : T ≤ n) : (bS lk false c T 0 0).tick n = bS lk false c T T 2 ∧ (bS lk false c T 0 0).ran n = T := by
  have h' : (bS lk false c T 0 0).tot ≤ (bS lk false c T 0 0).si + n := by show T ≤ 0 + n; omega
  rw [tick_end rfl rfl h', ran_end rfl rfl h']
  exact ⟨rfl, by show T - 0 = T; omega⟩
theorem b_early {lk : Bool} {c T n : Int} (h : n < T) : (bS lk false c T 0 0).tick n = bS lk false c T n 0 ∧ (bS lk false c T 0 0).ran n = n := by
  have h' : ¬ (bS lk false c T 0 0).tot ≤ (bS lk false c T 0 0).si + n := by show ¬ T ≤ 0 + n; omega
  rw [tick_on rfl rfl h', ran_on rfl rfl h']
  refine ⟨?_, rfl⟩
  show (bS lk false c T (0 + n) 0) = _
  rw [Int.zero_add]
theorem b_no4 (lk : Bool) (c T n v : Int) : (bS lk false c T n 0).sto 4 v = bS lk false c T n 0 := by
  unfold Wd.sto; rw [if_neg (by simp [bS]), if_neg (by decide), if_pos rfl, if_pos (.inr rfl)]
theorem b_no8 (lk : Bool) (c T n v : Int) : (bS lk false c T n 0).sto 8 v = bS lk false c T n 0 := by
  unfold Wd.sto; rw [if_neg (by simp [bS]), if_neg (by decide), if_neg (by decide), if_pos rfl, if_pos (.inr rfl)]
theorem b_first (lk : Bool) (c T n : Int) : (bS lk false c T n 0).sto 12 23130 = bS lk true c T n 0 := rfl
theorem b_shut {lk : Bool} {c T n : Int} (h : n < c) : (bS lk true c T n 0).sto 12 42405 = bS lk true c T n 4 := by
  show (bS lk true c T n 0).key 42405 = _
  exact key_early rfl rfl rfl h
theorem b_fed {lk : Bool} {c T n : Int} (h : ¬ n < c) : (bS lk true c T n 0).sto 12 42405 = bS lk false c T 0 0 := by
  show (bS lk true c T n 0).key 42405 = _
  exact key_feed rfl rfl rfl h
theorem b_left {lk : Bool} {c T : Int} : (bS lk false c T 0 0).left = T := by unfold Wd.left; rw [if_pos ⟨rfl, rfl⟩]; show T - 0 = T; omega
theorem bFault (lk ar : Bool) (c T n f : Int) (p : Nat) (w : World) (a : DAt w p (bS lk ar c T n f)) : Calls Try.prog 15 #[.pointer (some ⟨p, 0, none⟩)] w fun e w' => e = .returned (.int .i64 f) ∧ w = w' := dFault _ p w a
theorem bSince (lk ar : Bool) (c T n f : Int) (p : Nat) (w : World) (a : DAt w p (bS lk ar c T n f)) : Calls Try.prog 14 #[.pointer (some ⟨p, 0, none⟩)] w fun e w' => e = .returned (.int .u64 n) ∧ w = w' := dSince _ p w a
theorem bArmed (lk ar : Bool) (c T n f : Int) (p : Nat) (w : World) (a : DAt w p (bS lk ar c T n f)) : Calls Try.prog 19 #[.pointer (some ⟨p, 0, none⟩)] w fun e w' => e = .returned (.bool ar) ∧ w = w' := dArmed _ p w a
theorem bEnabled (lk ar : Bool) (c T n f : Int) (p : Nat) (w : World) (a : DAt w p (bS lk ar c T n f)) : Calls Try.prog 17 #[.pointer (some ⟨p, 0, none⟩)] w fun e w' => e = .returned (.bool true) ∧ w = w' := dEnabled _ p w a
theorem bLocked (lk ar : Bool) (c T n f : Int) (p : Nat) (w : World) (a : DAt w p (bS lk ar c T n f)) : Calls Try.prog 20 #[.pointer (some ⟨p, 0, none⟩)] w fun e w' => e = .returned (.bool lk) ∧ w = w' := dLocked _ p w a
set_option maxRecDepth 100000 in
set_option maxHeartbeats 6400000 in
theorem wdogWindow (w : World) (cl tot : Int) (y : Option Addr) (len cap : Nat) (lk : Bool) (c0 : 0 ≤ cl) (c1 : cl < 4294967296) (t0 : 0 ≤ tot) (t1 : tot < 4294967296)
    (hy : len = 0 ∨ ∃ z off, ∃ zs : Nat → Int, y = some ⟨z, off, none⟩ ∧ len ≤ cap ∧ cap ≤ maxLen ∧ z < w.heap.size ∧ ∀ i, i < cap → w.cell? ⟨z, off + i, none⟩ = some (.int .u64 (zs i)) ∧ 0 ≤ zs i ∧ zs i < 18446744073709551616) :
    Calls Try.prog 5 #[.int .u32 cl, .int .u32 tot, .slice y len cap, .bool lk] w fun e w' => e = .returned (.bool true) ∧ Below w.heap.size w w' := by
  have HY := Lib.hid hy
  clear hy
  go_enter Try.func5, Try.ntmps5
  go_upto_region 2 with (fail)
  have hT : 0 < 1 + tot % 100000 ∧ 1 + tot % 100000 ≤ 100000 := by omega
  generalize 1 + tot % 100000 = T at *
  obtain ⟨T0, T1⟩ := hT
  have hT0 : (T == 0) = false := by simp; omega
  have hc := Int.emod_nonneg cl (show T ≠ 0 by omega)
  have hcT := Int.emod_lt_of_pos cl T0
  go_upto_region 3 with (fail)
  generalize cl % T = c at *
  clear hT0 c0 c1 t0 t1
  go_wp2_with fail
  refine (dNew w).mono ?_
  rintro e w1 ⟨rfl, rfl⟩
  have A0 : DAt (w.alloc (.cells (dl wz).toArray tD (0, 0))) w.heap.size wz := blk_new w (.cells (dl wz).toArray tD (0, 0))
  have B0 := trA (tr0 w) (.cells (dl wz).toArray tD (0, 0))
  generalize w.alloc (.cells (dl wz).toArray tD (0, 0)) = W0 at *
  go_wp2_with fail
  refine (dStore wz 4 c _ _ wz_ok A0 (by omega) (by omega) (by omega) (by omega)).mono ?_
  rw [b_closed, show wSErr 4 = 0 from rfl]
  rintro e W1 ⟨rfl, A1, ho⟩
  have B1 := off_below8 B0 ho (Nat.le_refl _)
  clear A0 B0 ho
  go_wp2_with fail
  refine (dStore (bC c 0) 8 T _ _ (bC_ok (by omega) (by omega) (by omega) (by omega)) A1 (by omega) (by omega) (by omega) (by omega)).mono ?_
  rw [b_total, show wSErr 8 = 0 from rfl]
  rintro e W2 ⟨rfl, A2, ho⟩
  have B2 := off_below8 B1 ho (Nat.le_refl _)
  clear A1 B1 ho
  obtain ⟨C, hC⟩ : ∃ C, 1 + 2 * tk lk = C := ⟨_, rfl⟩
  have S0 := Lib.hid (fun w' a => by have := dStore (bC c T) 0 (1 + 2 * tk lk) w.heap.size w' (bC_ok (by omega) (by omega) (by omega) (by omega)) a (by omega) (by omega) (by cases lk <;> decide) (by cases lk <;> decide); rw [b_on hcT lk, hC] at this; exact this)
  have hC2 : (lk = false ∧ C = 1) ∨ (lk = true ∧ C = 3) := by rw [← hC]; cases lk; exact .inl ⟨rfl, rfl⟩; exact .inr ⟨rfl, rfl⟩
  clear hC
  rcases hC2 with ⟨rfl, rfl⟩ | ⟨rfl, rfl⟩
  all_goals
    go_wp2_with fail
    refine (S0.out _ A2).mono ?_
    rintro e W3 ⟨rfl, A3, ho⟩
    have B3 := off_below8 B2 ho (Nat.le_refl _)
    clear A2 B2 ho S0
    go_wp2_with fail
    go_loopw [11] (fun i wr => ∃ k : Nat, k ≤ len ∧ k ≤ 20 ∧ i = .int .i64 k ∧ DAt wr w.heap.size (bS _ false c T 0 0) ∧ Below w.heap.size w wr) (fun i wr => len - (intOf i).toNat)
    case atStart => exact ⟨0, by omega, by omega, rfl, A3, B3⟩
    case round =>
      clear A3 B3
      obtain ⟨k, hk, hkl, rfl, A, hB⟩ := hrel
      by_cases hlt : k < len ∧ k < 20
      · obtain ⟨hlt, hlm⟩ := hlt
        rcases HY.out with hy | ⟨z, off, zs, rfl, hlc, hcm, hbl, hz⟩
        · omega
        unfold maxLen at hcm
        obtain ⟨z0, n0, n1⟩ := hz k (by omega)
        rw [← hB.cell (p := ⟨z, _, none⟩) (by simpa using hbl)] at z0
        clear hz
        generalize zs k = m at *
        go_upto_region 14 with (fail)
        have hn : 0 ≤ m % 150000 ∧ m % 150000 < 150000 := by omega
        generalize m % 150000 = n at *
        go_wp2_with fail
        by_cases hTn : T ≤ n
        · have TK := dTick _ n _ _ (bS_ok hc hcT (by omega) (by omega) T0) A (by omega) (by omega)
          rw [(b_late hTn).1, (b_late hTn).2] at TK
          refine TK.mono ?_
          rintro e W4 ⟨rfl, A1, ho⟩
          have B1 := off_below8 hB ho (Nat.le_refl _)
          clear A hB ho
          go_wp2_with fail
          refine (dKnown _).mono ?_
          rintro e W5 ⟨rfl, hbl⟩
          have A := A1.below hbl
          have hB := tr B1 hbl
          clear A1 B1 hbl
          go_wp2_with fail
          refine (bFault _ _ _ _ _ _ _ _ A).mono ?_
          rintro e w' ⟨rfl, rfl⟩
          go_wp2_with fail
          go_ret
          exact ⟨rfl, hB⟩
        · have TK := dTick _ n _ _ (bS_ok hc hcT (by omega) (by omega) T0) A (by omega) (by omega)
          rw [(b_early (show n < T by omega)).1, (b_early (show n < T by omega)).2] at TK
          refine TK.mono ?_
          rintro e W4 ⟨rfl, A1, ho⟩
          have B1 := off_below8 hB ho (Nat.le_refl _)
          clear A hB ho
          go_wp2_with fail
          have ST := dStore _ 4 0 _ _ (bS_ok hc hcT (by omega) hn.1 (show n < T by omega)) A1 (by omega) (by omega) (by omega) (by omega)
          rw [b_no4] at ST
          refine ST.mono ?_
          rintro e W5 ⟨rfl, A, ho⟩
          have hB := off_below8 B1 ho (Nat.le_refl _)
          clear A1 B1 ho
          go_wp2_with fail
          have ST := dStore _ 8 1 _ _ (bS_ok hc hcT (by omega) hn.1 (show n < T by omega)) A (by omega) (by omega) (by omega) (by omega)
          rw [b_no8] at ST
          refine ST.mono ?_
          rintro e W6 ⟨rfl, A1, ho⟩
          have B1 := off_below8 hB ho (Nat.le_refl _)
          clear A hB ho
          go_wp2_with fail
          have ST := dStore _ 12 23130 _ _ (bS_ok hc hcT (by omega) hn.1 (show n < T by omega)) A1 (by omega) (by omega) (by omega) (by omega)
          rw [b_first] at ST
          refine ST.mono ?_
          rintro e W7 ⟨rfl, A, ho⟩
          have hB := off_below8 B1 ho (Nat.le_refl _)
          clear A1 B1 ho
          have FA := Lib.hid (bFault _ _ _ _ _ _ _ _ A)
          have AR := Lib.hid (bArmed _ _ _ _ _ _ _ _ A)
          have SI := Lib.hid (bSince _ _ _ _ _ _ _ _ A)
          have zn : (n != n) = false := by simp
          go_wp2_with fail
          refine (FA.out).mono ?_
          rintro e w' ⟨rfl, rfl⟩
          go_wp2_with fail
          refine (AR.out).mono ?_
          rintro e w' ⟨rfl, rfl⟩
          go_wp2_with fail
          refine (SI.out).mono ?_
          rintro e w' ⟨rfl, rfl⟩
          clear FA AR SI
          go_wp2_with fail
          have ST := dStore _ 12 42405 _ _ (bS_ok (ar := true) hc hcT (by omega) hn.1 (show n < T by omega)) A (by omega) (by omega) (by omega) (by omega)
          by_cases hnc : n < c
          · rw [b_shut hnc] at ST
            refine ST.mono ?_
            rintro e W8 ⟨rfl, A1, ho⟩
            have B1 := off_below8 hB ho (Nat.le_refl _)
            clear A hB ho
            go_wp2_with fail
            refine (dKnown _).mono ?_
            rintro e W5 ⟨rfl, hbl⟩
            have A := A1.below hbl
            have hB := tr B1 hbl
            clear A1 B1 hbl
            go_wp2_with fail
            refine (bFault _ _ _ _ _ _ _ _ A).mono ?_
            rintro e w' ⟨rfl, rfl⟩
            go_wp2_with fail
            go_ret
            exact ⟨rfl, hB⟩
          · rw [b_fed hnc] at ST
            refine ST.mono ?_
            rintro e W8 ⟨rfl, A1, ho⟩
            have B1 := off_below8 hB ho (Nat.le_refl _)
            clear A hB ho
            have LE := dLeft _ _ _ (bS_ok hc hcT (by omega) (by omega) T0) A1
            rw [b_left] at LE
            have LE := Lib.hid LE
            have FA := Lib.hid (bFault _ _ _ _ _ _ _ _ A1)
            have AR := Lib.hid (bArmed _ _ _ _ _ _ _ _ A1)
            have SI := Lib.hid (bSince _ _ _ _ _ _ _ _ A1)
            have zT : (T != T) = false := by simp
            go_wp2_with fail
            refine (FA.out).mono ?_
            rintro e w' ⟨rfl, rfl⟩
            go_wp2_with fail
            refine (SI.out).mono ?_
            rintro e w' ⟨rfl, rfl⟩
            go_wp2_with fail
            refine (AR.out).mono ?_
            rintro e w' ⟨rfl, rfl⟩
            go_wp2_with fail
            refine (LE.out).mono ?_
            rintro e W9 ⟨rfl, hbl⟩
            have A := A1.below hbl
            have hB := tr B1 hbl
            clear A1 B1 hbl FA AR SI LE
            go_wp2_with fail
            go_roundw
            case rel => exact ⟨k + 1, by omega, by omega, by go_num, A, hB⟩
            case measure => simp [intOf]; omega
      · by_cases hlt2 : k < len
        all_goals
          go_wp2_with fail
          refine (dKnown _).mono ?_
          rintro e w1 ⟨rfl, hb1⟩
          have A1 := A.below hb1
          go_wp2_with fail
          refine (bEnabled _ _ _ _ _ _ _ _ A1).mono ?_
          rintro e w' ⟨rfl, rfl⟩
          go_wp2_with fail
          refine (bLocked _ _ _ _ _ _ _ _ A1).mono ?_
          rintro e w' ⟨rfl, rfl⟩
          go_wp2_with fail
          go_ret
          exact ⟨rfl, tr hB hb1⟩
end Go.Proofs.Ytlgdlmhgifhchaa.B
