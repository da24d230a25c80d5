/- The law CountSteps: many ticks at once are as many single ones. -/
import Derived.Test.YtpgnieejikennaaL06D
import Derived.Test.YtpgnieejikennaaMix
import Derived.Deep.Cut
namespace Go.Proofs.Ytpgnieejikennaa.B
set_option linter.unusedVariables false
set_option linter.unusedSimpArgs false
open Go.ChangeShapes Go.WideShapes Go.RowKit Go.Sort Go.MapKept
set_option maxRecDepth 100000 in
set_option maxHeartbeats 6400000 in
theorem countSteps (w : World) (y : Option Addr) (len cap : Nat) (N : Int) (N0 : 0 ≤ N) (N1 : N < 18446744073709551616) (hy : len = 0 ∨ ∃ b off, y = some ⟨b, off, none⟩ ∧ len ≤ cap ∧ cap ≤ maxLen ∧ b < w.heap.size ∧ ∀ i, i < cap → ∃ K n o v : Int, w.cell? ⟨b, off + i * 4, none⟩ = some (.int .i64 K) ∧ w.cell? ⟨b, off + i * 4 + 1, none⟩ = some (.int .u64 n) ∧ w.cell? ⟨b, off + i * 4 + 2, none⟩ = some (.int .u32 o) ∧ w.cell? ⟨b, off + i * 4 + 3, none⟩ = some (.int .u32 v) ∧
      (-9223372036854775808 ≤ K ∧ K < 9223372036854775808) ∧ (0 ≤ n ∧ n < 18446744073709551616) ∧ (0 ≤ o ∧ o < 4294967296) ∧ (0 ≤ v ∧ v < 4294967296)) :
    Calls Try.prog 4 #[.slice y len cap, .int .u64 N] w fun e w' => e = .returned (.bool true) ∧ Below w.heap.size w w' := by
  have HY := Lib.hid hy
  clear hy
  go_enter Try.func4, Try.ntmps4
  go_wp2_with fail
  refine (nNew w).mono ?_
  rintro e w1 ⟨rfl, rfl⟩
  have A0 : TAt (w.alloc (.cells (wl tz).toArray tC (0, 0))) w.heap.size tC tz := blk_new w (.cells (wl tz).toArray tC (0, 0))
  have b0 := trA (tr0 w) (.cells (wl tz).toArray tC (0, 0))
  have hs0 : (w.alloc (.cells (wl tz).toArray tC (0, 0))).heap.size = w.heap.size + 1 := by simp
  generalize w.alloc (.cells (wl tz).toArray tC (0, 0)) = W0 at *
  have M2 : MAt (W0.alloc zM) W0.heap.size tz := blk_new W0 zM
  have A2 := A0.below (trA (tr0 W0) zM)
  have b2 := trA b0 zM
  rw [hs0] at M2
  go_upto_region 2 with (fail)
  rw [zM_eq]
  clear A0 b0 hs0
  generalize W0.alloc zM = W at *
  go_wp2_with fail
  go_loopw [5, 7] (fun l i wr => ∃ (k p : Nat) (t : Tm), k ≤ len ∧ k ≤ 20 ∧ i = .int .i64 k ∧ l = .pointer (some ⟨p, 0, none⟩) ∧ t.ok ∧ TAt wr p tC t ∧ MAt wr (w.heap.size + 1) t ∧ Below w.heap.size w wr ∧ w.heap.size ≤ p) (fun l i wr => len - (intOf i).toNat)
  case atStart => exact ⟨0, w.heap.size, tz, by omega, by omega, rfl, rfl, tz_ok, A2, M2, b2, Nat.le_refl _⟩
  case round =>
    clear A2 M2 b2
    obtain ⟨k, p, t, hk, hkl, rfl, rfl, ht, A, M, hB, hp⟩ := hrel
    by_cases hlt : k < len ∧ k < 20
    · obtain ⟨hlt, hlm⟩ := hlt
      rcases HY.out with hy | ⟨b, off, rfl, hlc, hcm, hbl, hz⟩
      · omega
      unfold maxLen at hcm
      obtain ⟨K, n, o, v, c0, c1, c2, c3, ⟨k0, k1⟩, ⟨n0, n1⟩, ⟨o0, o1⟩, ⟨v0, v1⟩⟩ := hz k (by omega)
      rw [← hB.cell (p := ⟨b, _, none⟩) (by simpa using hbl)] at c0 c1 c2 c3
      clear hz
      have hbw : b < wr.heap.size := by have := hB.size; omega
      have hg := gcell
      have hpm : p ≠ w.heap.size + 1 := apart_types A M rfl
      go_wp2_with fail
      refine wp_region_mix_below 6 (by kernel_rfl) (by kernel_rfl) (by intro _ _ d _ _ h; cases d <;> exact h) ?_
      simp only [List.take_succ_cons, List.take_zero, List.drop_succ_cons, List.drop_zero]
      repeat (first
        | go_big_quiet_skip
        | (go_big_quiet_want; first
            | (refine qloadM (.tmp 6) rfl rfl M.grown ?_; go_simp; go_big_quiet_on)
            | (go_big_quiet_op; first | go_big_quiet_on)))
      refine wpQuiet_nil ?_
      intro _ hw'
      obtain ⟨⟨dq, osq⟩, hw''⟩ := hw'
      subst hw''
      have hbr := below_regrown wr dq osq
      have A1 := A.below hbr
      have M1 := M.below hbr
      have B1 := tr hB hbr
      clear A M hB hbr c0 c1 c2 c3 hg hbw
      dsimp only at A1 M1 B1 ⊢
      generalize grow (redrawn wr dq) osq = W1 at *
      go_wp2_with fail
      refine (nDo t K n o v p _ ht A1 n0 n1 o0 o1 v0 v1).mono ?_
      rintro e W2 ⟨p', t', rfl, ht', A2, hpp, ho⟩
      have M2 := M1.off ho (fun e => hpm e.symm)
      have B2 := off_below B1 ho hp (Nat.le_refl _)
      have hp' : w.heap.size ≤ p' := by have := B1.size; omega
      have A3 := A2.elseRow (w.heap.size + 1) (rl t').toArray (apart_types A2 M2 rfl)
      have M3 := MAt.row M2 t'
      have B3 := below_setRow B2 (rl t').toArray (g := w.heap.size + 1) (by omega)
      clear A1 M1 B1 ho hpp hpm
      go_wp2_with (refine storeM rfl (.tmp 6) (.tmp 33) rfl rfl rfl M2 ?_)
      clear A2 M2 B2
      generalize W2.setRow (w.heap.size + 1) (rl t').toArray = W3 at *
      go_roundw
      case rel => exact ⟨k + 1, p', t', by omega, by omega, by go_num, rfl, ht', A3, M3, B3, hp'⟩
      case measure => simp [intOf]; omega
    · have hn : 0 ≤ N % 401 ∧ N % 401 < 401 := by omega
      obtain ⟨S, hS⟩ := Int.eq_ofNat_of_zero_le hn.1
      have hS2 : S < 401 := by omega
      have fin : (k < len ∧ ¬ k < 20) ∨ ¬ k < len := by omega
      clear hlt hk hkl
      have hpm : p ≠ w.heap.size + 1 := apart_types A M rfl
      have hTo : (t.tick (S : Int)).ok := Tm.tick_ok ht (by omega)
      rcases fin with ⟨f1, f2⟩ | f1
      all_goals
        go_upto_region 11 with (fail)
        rw [hS]
        go_wp2_with fail
        refine (nCopy t p _ A).mono ?_
        rintro e w1 ⟨rfl, rfl⟩
        have hb := trA (tr0 wr) (.cells (wl t).toArray tC (0, 0))
        have Q1 : TAt (wr.alloc (.cells (wl t).toArray tC (0, 0))) wr.heap.size tC t := blk_new wr _
        have hpq : p ≠ wr.heap.size := by have := A.lt; omega
        have hq0 : w.heap.size ≤ wr.heap.size := hB.size
        have A1 := A.below hb
        have M1 := M.below hb
        have B1 := tr hB hb
        clear A M hB hb
        generalize wr.alloc (.cells (wl t).toArray tC (0, 0)) = W1 at *
        generalize wr.heap.size = q at *
        go_wp2_with fail
        refine (nTick t (S : Int) p _ ht A1 (by omega) (by omega)).mono ?_
        rintro e W2 ⟨rfl, A2, ho⟩
        have Q2 := Q1.off ho (fun e => hpq e.symm)
        have M2 := M1.off ho (fun e => hpm e.symm)
        have B2 := off_below B1 ho hp (Nat.le_refl _)
        clear A1 Q1 M1 B1 ho
        obtain ⟨T, hT⟩ : ∃ T, t.tick (S : Int) = T := ⟨_, rfl⟩
        rw [hT] at A2 hTo
        have hqm : q ≠ w.heap.size + 1 := apart_types Q2 M2 rfl
        go_wp2_with fail
        go_loopw [9] (fun i wr => ∃ (j : Nat) (s : Tm), j ≤ S ∧ i = .int .u64 j ∧ s.ok ∧ TAt wr p tC T ∧ TAt wr q tC s ∧ MAt wr (w.heap.size + 1) s ∧ Below w.heap.size w wr ∧ Hid (t.tick (j : Int) = s)) (fun i wr => S - (intOf i).toNat)
        case atStart => exact ⟨0, t, by omega, rfl, ht, A2, Q2, M2, B2, Lib.hid (Tm.tick_zero ht)⟩
        case round =>
          clear A2 Q2 M2 B2
          obtain ⟨j, s, hj, rfl, hs, A, Q, M, hB, HS⟩ := hrel
          by_cases hlt : j < S
          · have HS2 := Lib.hid (show t.tick ((j + 1 : Nat) : Int) = s.one by rw [Tm.one_tick hs, ← HS.out, Tm.tick_tick ht (by omega) (by omega)]; rfl)
            have hs1 : s.one.ok := by rw [Tm.one_tick hs]; exact Tm.tick_ok hs (by omega)
            have HT : s.tick 1 = s.one := (Tm.one_tick hs).symm
            have CT := Lib.hid (fun w a => by have := nTick s 1 q w hs a (by omega) (by omega); rw [HT] at this; exact this)
            clear HT
            go_wp2_with (refine loadM rfl (.tmp 6) rfl rfl M ?_)
            refine (mOne s _ hs).mono ?_
            rintro e W3 ⟨rfl, hb⟩
            have A1 := A.below hb
            have Q1 := Q.below hb
            have M1 := M.below hb
            have B1 := tr hB hb
            clear A Q M hB hb
            generalize s.one = s1 at *
            have A2 := A1.elseRow (w.heap.size + 1) (rl s1).toArray hpm
            have Q2 := Q1.elseRow (w.heap.size + 1) (rl s1).toArray hqm
            have M2 := MAt.row M1 s1
            have B2 := below_setRow B1 (rl s1).toArray (g := w.heap.size + 1) (by omega)
            go_upto_region 17 with (refine storeM rfl (.tmp 6) (.tmp 50) rfl rfl rfl M1 ?_)
            clear A1 Q1 M1 B1
            generalize W3.setRow (w.heap.size + 1) (rl s1).toArray = W4 at *
            go_wp2_with fail
            refine (CT.out _ Q2).mono ?_
            rintro e W5 ⟨rfl, Q3, ho⟩
            have A3 := A2.off ho hpq
            have M3 := M2.off ho (fun e => hqm e.symm)
            have B3 := off_below B2 ho hq0 (Nat.le_refl _)
            clear A2 Q2 M2 B2 ho
            go_wp2_with fail
            go_roundw
            case rel => exact ⟨j + 1, s1, by omega, by go_num, hs1, A3, Q3, M3, B3, HS2⟩
            case measure => simp [intOf]; omega
          · obtain rfl : j = S := by omega
            obtain rfl : s = T := by rw [← HS.out, ← hT]
            clear HS hT
            go_wp2_with fail
            refine (nKnown _).mono ?_
            rintro e W3 ⟨rfl, hb⟩
            have A1 := A.below hb
            have Q1 := Q.below hb
            have M1 := M.below hb
            have B1 := tr hB hb
            clear A Q M hB hb
            go_wp2_with (refine loadMg (.tmp 6) rfl rfl rfl M1 ?_)
            refine (nAlike _ _ _ hs A1).mono ?_
            rintro e W4 ⟨rfl, hb⟩
            have Q2 := Q1.below hb
            have M2 := M1.below hb
            have B2 := tr B1 hb
            clear A1 Q1 M1 B1 hb
            go_wp2_with (refine loadMg (.tmp 6) rfl rfl rfl M2 ?_)
            refine (nAlike _ _ _ hs Q2).mono ?_
            rintro e W5 ⟨rfl, hb⟩
            go_wp2_with fail
            go_ret
            exact ⟨rfl, tr B2 hb⟩
end Go.Proofs.Ytpgnieejikennaa.B
