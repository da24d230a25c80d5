/- The law CountLeft: behind Left ticks a timer has expired, behind one less it has not. -/
import Derived.Test.YtpgnieejikennaaL06D
import Derived.Test.YtpgnieejikennaaMix
import Derived.Deep.Cut
namespace Go.Proofs.Ytpgnieejikennaa.B
set_option linter.unusedVariables false
set_option linter.unusedSimpArgs false
open Go.ChangeShapes Go.WideShapes Go.RowKit Go.Sort Go.MapKept
/-- Behind Status is cleared. -/
theorem sto_clear (t : Tm) : t.sto 12 1 = { t with st := false } := by
  show ({ t with st := t.st && !bit 1 0 } : Tm) = _
  rw [show bit 1 0 = true by decide]
  simp
theorem early {t : Tm} (o : t.ok) (he : t.en = true) (hs : t.st = false) : (t.tick (t.left - 1)).val 12 = 0 ∧ (t.tick (t.left - 1)).lef = 1 := by
  have hl := o.left
  rw [Tm.tick_lt he (by omega)]
  refine ⟨?_, ?_⟩
  · show tk (t.lat (t.left - 1)).st = 0
    show tk t.st = 0
    rw [hs]; rfl
  · unfold Tm.lef
    rw [if_pos (show (t.lat (t.left - 1)).en = true from he), Tm.lat_left o (by omega) (by omega)]; omega
theorem late {t : Tm} (o : t.ok) (he : t.en = true) : ((t.tick (t.left - 1)).tick 1).val 12 = 1 := by
  have hl := o.left
  rw [Tm.tick_tick o (by omega) (by omega), show t.left - 1 + 1 = t.left by omega, Tm.tick_ge o he (Int.le_refl _), Int.sub_self, Tm.tick_zero (Tm.exp_ok o)]
  show tk t.exp.st = 1
  rw [show t.exp.st = true by unfold Tm.exp; split <;> rfl]; rfl
set_option maxRecDepth 100000 in
set_option maxHeartbeats 6400000 in
theorem countLeft (w : World) (y : Option Addr) (len cap : Nat) (a b : Int) (a0 : 0 ≤ a) (a1 : a < 18446744073709551616) (b0 : 0 ≤ b) (b1 : b < 18446744073709551616) (hy : len = 0 ∨ ∃ b off, y = some ⟨b, off, none⟩ ∧ len ≤ cap ∧ cap ≤ maxLen ∧ b < w.heap.size ∧ ∀ i, i < cap → ∃ K n o v : Int, w.cell? ⟨b, off + i * 4, none⟩ = some (.int .i64 K) ∧ w.cell? ⟨b, off + i * 4 + 1, none⟩ = some (.int .u64 n) ∧ w.cell? ⟨b, off + i * 4 + 2, none⟩ = some (.int .u32 o) ∧ w.cell? ⟨b, off + i * 4 + 3, none⟩ = some (.int .u32 v) ∧
      (-9223372036854775808 ≤ K ∧ K < 9223372036854775808) ∧ (0 ≤ n ∧ n < 18446744073709551616) ∧ (0 ≤ o ∧ o < 4294967296) ∧ (0 ≤ v ∧ v < 4294967296)) :
    Calls Try.prog 5 #[.slice y len cap, .int .u64 a, .int .u64 b] w fun e w' => e = .returned (.bool true) ∧ Below w.heap.size w w' := by
  have HY := Lib.hid hy
  clear hy
  go_enter Try.func5, Try.ntmps5
  go_wp2_with fail
  refine (nNew w).mono ?_
  rintro e w1 ⟨rfl, rfl⟩
  have A0 : TAt (w.alloc (.cells (wl tz).toArray tC (0, 0))) w.heap.size tC tz := blk_new w (.cells (wl tz).toArray tC (0, 0))
  have bb0 := trA (tr0 w) (.cells (wl tz).toArray tC (0, 0))
  have hs0 : (w.alloc (.cells (wl tz).toArray tC (0, 0))).heap.size = w.heap.size + 1 := by simp
  generalize w.alloc (.cells (wl tz).toArray tC (0, 0)) = W0 at *
  have M2 : MAt (W0.alloc zM) W0.heap.size tz := blk_new W0 zM
  have A2 := A0.below (trA (tr0 W0) zM)
  have bb2 := trA bb0 zM
  rw [hs0] at M2
  go_upto_region 2 with (fail)
  rw [zM_eq]
  clear A0 bb0 hs0
  generalize W0.alloc zM = W at *
  go_wp2_with fail
  go_loopw [7, 9] (fun l i wr => ∃ (k p : Nat) (t : Tm), k ≤ len ∧ k ≤ 20 ∧ i = .int .i64 k ∧ l = .pointer (some ⟨p, 0, none⟩) ∧ t.ok ∧ TAt wr p tC t ∧ MAt wr (w.heap.size + 1) t ∧ Below w.heap.size w wr ∧ w.heap.size ≤ p) (fun l i wr => len - (intOf i).toNat)
  case atStart => exact ⟨0, w.heap.size, tz, by omega, by omega, rfl, rfl, tz_ok, A2, M2, bb2, Nat.le_refl _⟩
  case round =>
    clear A2 M2 bb2
    obtain ⟨k, p, t, hk, hkl, rfl, rfl, ht, A, M, hB, hp⟩ := hrel
    by_cases hlt : k < len ∧ k < 20
    · obtain ⟨hlt, hlm⟩ := hlt
      rcases HY.out with hy | ⟨z, off, rfl, hlc, hcm, hbl, hz⟩
      · omega
      unfold maxLen at hcm
      obtain ⟨K, n, o, v, c0, c1, c2, c3, ⟨k0, k1⟩, ⟨n0, n1⟩, ⟨o0, o1⟩, ⟨v0, v1⟩⟩ := hz k (by omega)
      rw [← hB.cell (p := ⟨z, _, none⟩) (by simpa using hbl)] at c0 c1 c2 c3
      clear hz
      have hbw : z < wr.heap.size := by have := hB.size; omega
      have hg := gcell
      have hpm : p ≠ w.heap.size + 1 := apart_types A M rfl
      go_wp2_with fail
      refine wp_region_mix_below 6 (by kernel_rfl) (by kernel_rfl) (by intro _ _ d _ _ h; cases d <;> exact h) ?_
      simp only [List.take_succ_cons, List.take_zero, List.drop_succ_cons, List.drop_zero]
      repeat (first
        | go_big_quiet_skip
        | (go_big_quiet_want; first
            | (refine qloadM (.tmp 8) rfl rfl M.grown ?_; go_simp; go_big_quiet_on)
            | (go_big_quiet_op; first | go_big_quiet_on)))
      refine wpQuiet_nil ?_
      intro _ hw'
      obtain ⟨⟨dq, osq⟩, hw''⟩ := hw'
      subst hw''
      have hbr := below_regrown wr dq osq
      have A1 := A.below hbr
      have M1 := M.below hbr
      have B1 := tr hB hbr
      clear A M hB hbr c0 c1 c2 c3 hg hbw
      dsimp only at A1 M1 B1 ⊢
      generalize grow (redrawn wr dq) osq = W1 at *
      go_wp2_with fail
      refine (nDo t K n o v p _ ht A1 n0 n1 o0 o1 v0 v1).mono ?_
      rintro e W2 ⟨p', t', rfl, ht', A2, hpp, ho⟩
      have M2 := M1.off ho (fun e => hpm e.symm)
      have B2 := off_below B1 ho hp (Nat.le_refl _)
      have hp' : w.heap.size ≤ p' := by have := B1.size; omega
      have A3 := A2.elseRow (w.heap.size + 1) (rl t').toArray (apart_types A2 M2 rfl)
      have M3 := MAt.row M2 t'
      have B3 := below_setRow B2 (rl t').toArray (g := w.heap.size + 1) (by omega)
      clear A1 M1 B1 ho hpp hpm
      go_wp2_with (refine storeM rfl (.tmp 8) (.tmp 46) rfl rfl rfl M2 ?_)
      clear A2 M2 B2
      generalize W2.setRow (w.heap.size + 1) (rl t').toArray = W3 at *
      go_roundw
      case rel => exact ⟨k + 1, p', t', by omega, by omega, by go_num, rfl, ht', A3, M3, B3, hp'⟩
      case measure => simp [intOf]; omega
    · clear M
      have fin : (k < len ∧ ¬ k < 20) ∨ ¬ k < len := by omega
      clear hlt hk hkl
      have ha : 0 ≤ a % 4611686018427387904 ∧ a % 4611686018427387904 < 4611686018427387904 := by omega
      have hb : 0 ≤ b % 4611686018427387904 ∧ b % 4611686018427387904 < 4611686018427387904 := by omega
      rcases fin with ⟨f1, f2⟩ | f1
      all_goals
        go_wp2_with fail
        refine (nCopy t p _ A).mono ?_
        rintro e w1 ⟨rfl, rfl⟩
        have hbl := trA (tr0 wr) (.cells (wl t).toArray tC (0, 0))
        have Q1 : TAt (wr.alloc (.cells (wl t).toArray tC (0, 0))) wr.heap.size tC t := blk_new wr _
        have hpq : p ≠ wr.heap.size := by have := A.lt; omega
        have hq0 : w.heap.size ≤ wr.heap.size := hB.size
        have A1 := A.below hbl
        have B1 := tr hB hbl
        clear A hB hbl
        generalize wr.alloc (.cells (wl t).toArray tC (0, 0)) = W1 at *
        generalize wr.heap.size = q at *
        go_wp2_with fail
        refine (nCopy t p _ A1).mono ?_
        rintro e w1 ⟨rfl, rfl⟩
        have hbl := trA (tr0 W1) (.cells (wl t).toArray tC (0, 0))
        have R1 : TAt (W1.alloc (.cells (wl t).toArray tC (0, 0))) W1.heap.size tC t := blk_new W1 _
        have hpr : p ≠ W1.heap.size := by have := A1.lt; omega
        have hqr : q ≠ W1.heap.size := by have := Q1.lt; omega
        have hr0 : w.heap.size ≤ W1.heap.size := B1.size
        have A := A1.below hbl
        have Q := Q1.below hbl
        have hB := tr B1 hbl
        clear A1 Q1 B1 hbl
        generalize W1.alloc (.cells (wl t).toArray tC (0, 0)) = W2 at *
        generalize W1.heap.size = r at *
        go_upto_region 12 with (fail)
        generalize a % 4611686018427387904 = a' at *
        generalize b % 4611686018427387904 = b' at *
        go_wp2_with fail
        refine (nTick t a' q _ ht Q (by omega) (by omega)).mono ?_
        rintro e W3 ⟨rfl, Q1, ho⟩
        have A1 := A.off ho hpq
        have R2 := R1.off ho (fun e => hqr e.symm)
        have B1 := off_below hB ho hq0 (Nat.le_refl _)
        have hto : (t.tick a').ok := Tm.tick_ok ht ha.1
        clear A Q R1 hB ho
        go_wp2_with fail
        refine (nTick (t.tick a') b' q _ hto Q1 (by omega) (by omega)).mono ?_
        rintro e W4 ⟨rfl, Q2, ho⟩
        have A := A1.off ho hpq
        have R := R2.off ho (fun e => hqr e.symm)
        have hB := off_below B1 ho hq0 (Nat.le_refl _)
        rw [Tm.tick_tick ht ha.1 hb.1] at Q2
        clear A1 Q1 R2 B1 ho hto
        go_wp2_with fail
        refine (nTick t (a' + b') r _ ht R (by omega) (by omega)).mono ?_
        rintro e W5 ⟨rfl, R1, ho⟩
        have A1 := A.off ho hpr
        have Q1 := Q2.off ho hqr
        have B1 := off_below hB ho hr0 (Nat.le_refl _)
        have hto : (t.tick (a' + b')).ok := Tm.tick_ok ht (by omega)
        clear A Q2 R hB ho
        generalize t.tick (a' + b') = s at *
        go_wp2_with fail
        go_loopw [12] (fun i wr => ∃ j : Int, 0 ≤ j ∧ j ≤ 4 ∧ i = .int .u32 (4 * j) ∧ TAt wr p tC t ∧ TAt wr q tC s ∧ TAt wr r tC s ∧ Below w.heap.size w wr) (fun i wr => (20 - intOf i).toNat)
        case atStart => exact ⟨0, by omega, by omega, rfl, A1, Q1, R1, B1⟩
        case round =>
          clear A1 Q1 R1 B1
          obtain ⟨j, j0, j4, rfl, A, Q, R, hB⟩ := hrel
          by_cases hlt : j < 4
          · have q8 : 4 * j < 16 := by omega
            obtain ⟨V, hV⟩ : ∃ V, s.val (4 * j) = V := ⟨_, rfl⟩
            obtain ⟨E, hE⟩ : ∃ E, nErr (4 * j) = E := ⟨_, rfl⟩
            have CL := Lib.hid (fun p w a => by have := nLoad s (4 * j) p w hto a (by omega) (by omega); rw [hV, hE] at this; exact this)
            have zV : (V != V) = false := by simp
            clear hV hE
            go_wp2_with fail
            refine (CL.out _ _ Q).mono ?_
            rintro e w' ⟨rfl, rfl⟩
            go_wp2_with fail
            refine (CL.out _ _ R).mono ?_
            rintro e w' ⟨rfl, rfl⟩
            go_wp2_with fail
            go_roundw
            case rel => exact ⟨j + 1, by omega, by omega, by go_num, A, Q, R, hB⟩
            case measure => simp [intOf]; omega
          · obtain rfl : j = 4 := by omega
            obtain ⟨V, hV⟩ : ∃ V, s.lef = V := ⟨_, rfl⟩
            have CL := Lib.hid (fun p w a => by have := nLeftC s p w hto a; rw [hV] at this; exact this)
            have zV : (V != V) = false := by simp
            clear hV hto
            go_wp2_with fail
            refine (CL.out _ _ Q).mono ?_
            rintro e W6 ⟨rfl, hbl⟩
            have A1 := A.below hbl
            have R1 := R.below hbl
            have B1 := tr hB hbl
            clear A Q R hB hbl
            go_wp2_with fail
            refine (CL.out _ _ R1).mono ?_
            rintro e W7 ⟨rfl, hbl⟩
            have A := A1.below hbl
            have hB := tr B1 hbl
            clear A1 R1 B1 hbl CL
            go_wp2_with fail
            refine (nStore t 12 1 p _ ht A (by omega) (by omega) (by omega) (by omega)).mono ?_
            rw [show nSErr 12 = 0 from rfl, if_pos rfl, sto_clear]
            rintro e W8 ⟨rfl, A1, ho⟩
            have B1 := off_below hB ho hp (Nat.le_refl _)
            have hxo : ({ t with st := false } : Tm).ok := ⟨ht.l0, ht.l1, ht.v0, ht.v1, ht.s0, ht.s1, ht.p0, ht.p1⟩
            have hxs : ({ t with st := false } : Tm).st = false := rfl
            clear A hB ho ht
            generalize ({ t with st := false } : Tm) = x at *
            have hL := hxo.left
            have LF := Lib.hid (fun w a => nLeftC x p w hxo a)
            have RN := Lib.hid (fun w a => nRuns x p w hxo a)
            cases hen : x.en
            · have hlf : x.lef = 18446744073709551615 := by unfold Tm.lef; rw [hen]; rfl
              rw [hlf] at LF
              rw [hen] at RN
              clear hlf
              go_wp2_with fail
              refine (LF.out _ A1).mono ?_
              rintro e W9 ⟨rfl, hbl⟩
              have A := A1.below hbl
              have hB := tr B1 hbl
              clear A1 B1 hbl
              go_wp2_with fail
              refine (RN.out _ A).mono ?_
              rintro e W10 ⟨rfl, hbl⟩
              have B1 := tr hB hbl
              clear A hB hbl
              go_wp2_with fail
              refine (nKnown _).mono ?_
              rintro e W11 ⟨rfl, hbl⟩
              go_wp2_with fail
              go_ret
              exact ⟨rfl, tr B1 hbl⟩
            · have hlf : x.lef = x.left := by unfold Tm.lef; rw [hen]; rfl
              rw [hlf] at LF
              rw [hen] at RN
              have h1 := early hxo hen hxs
              have h2 := late hxo hen
              have o1 : (x.tick (x.left - 1)).ok := Tm.tick_ok hxo (by omega)
              have o2 : ((x.tick (x.left - 1)).tick 1).ok := Tm.tick_ok o1 (by omega)
              have T1 := Lib.hid (fun w a => nTick x (x.left - 1) p w hxo a (by omega) (by omega))
              clear hlf hxs
              generalize x.tick (x.left - 1) = x1 at *
              have T2 := Lib.hid (fun w a => nTick x1 1 p w o1 a (by omega) (by omega))
              generalize x1.tick 1 = x2 at *
              have L1 := Lib.hid (fun w a => by have := nLoad x1 12 p w o1 a (by omega) (by omega); rw [h1.1, show nErr 12 = 0 from rfl] at this; exact this)
              have F1 := Lib.hid (fun w a => by have := nLeftC x1 p w o1 a; rw [h1.2] at this; exact this)
              have L2 := Lib.hid (fun w a => by have := nLoad x2 12 p w o2 a (by omega) (by omega); rw [h2, show nErr 12 = 0 from rfl] at this; exact this)
              clear h1 h2 o1 o2
              have hlp : 0 < x.left := by omega
              go_wp2_with fail
              refine (LF.out _ A1).mono ?_
              rintro e W9 ⟨rfl, hbl⟩
              have A := A1.below hbl
              have hB := tr B1 hbl
              clear A1 B1 hbl
              go_wp2_with fail
              refine (RN.out _ A).mono ?_
              rintro e W10 ⟨rfl, hbl⟩
              have A1 := A.below hbl
              have B1 := tr hB hbl
              clear A hB hbl
              go_wp2_with fail
              refine (T1.out _ A1).mono ?_
              rintro e W11 ⟨rfl, A, ho⟩
              have hB := off_below B1 ho hp (Nat.le_refl _)
              clear A1 B1 ho
              go_wp2_with fail
              refine (L1.out _ A).mono ?_
              rintro e w' ⟨rfl, rfl⟩
              go_wp2_with fail
              refine (F1.out _ A).mono ?_
              rintro e W12 ⟨rfl, hbl⟩
              have A1 := A.below hbl
              have B1 := tr hB hbl
              clear A hB hbl
              go_wp2_with fail
              refine (T2.out _ A1).mono ?_
              rintro e W13 ⟨rfl, A, ho⟩
              have hB := off_below B1 ho hp (Nat.le_refl _)
              clear A1 B1 ho
              go_wp2_with fail
              refine (L2.out _ A).mono ?_
              rintro e w' ⟨rfl, rfl⟩
              go_wp2_with fail
              refine (nKnown _).mono ?_
              rintro e W14 ⟨rfl, hbl⟩
              go_wp2_with fail
              go_ret
              exact ⟨rfl, tr hB hbl⟩
end Go.Proofs.Ytpgnieejikennaa.B
