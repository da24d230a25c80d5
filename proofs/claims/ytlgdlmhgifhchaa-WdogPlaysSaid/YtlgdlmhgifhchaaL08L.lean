/- The law WdogLeft: behind Left ticks the fault is Timeout, ahead of that none comes by ticks. -/
import Derived.Test.YtlgdlmhgifhchaaL08D
import Derived.Test.YtlgdlmhgifhchaaMix
import Derived.Deep.Cut
namespace Go.Proofs.Ytlgdlmhgifhchaa.B
set_option linter.unusedVariables false
set_option linter.unusedSimpArgs false
open Go.ChangeShapes Go.WideShapes Go.RowKit Go.Sort Go.MapKept
theorem Wd.ran_bounds {t : Wd} (h : t.ok) {n : Int} (n0 : 0 ≤ n) : 0 ≤ t.ran n ∧ t.ran n ≤ n := by
  have := h.s1
  unfold Wd.ran
  split
  · omega
  · split
    · split <;> omega
    · omega
theorem Wd.left_run {t : Wd} (he : t.en = true) (hf : t.fa = 0) : t.left = t.tot - t.si := by unfold Wd.left; rw [if_pos ⟨he, hf⟩]
theorem Wd.left_not {t : Wd} (h : ¬ (t.en = true ∧ t.fa = 0)) : t.left = 18446744073709551615 := by unfold Wd.left; rw [if_neg h]
theorem early8 {t : Wd} (h : t.ok) (he : t.en = true) (hf : t.fa = 0) : t.ran (t.left - 1) = t.left - 1 ∧ (t.tick (t.left - 1)).fa = 0 ∧ (t.tick (t.left - 1)).left = 1 ∧ (t.tick (t.left - 1)).ran 9 = 1 ∧ ((t.tick (t.left - 1)).tick 9).fa = 2 ∧ ((t.tick (t.left - 1)).tick 9).ran 9 = 0 := by
  have hlt := h.run he hf
  rw [Wd.left_run he hf]
  have hn : ¬ t.tot ≤ t.si + (t.tot - t.si - 1) := by omega
  rw [tick_on he hf hn, ran_on he hf hn]
  have he2 : ({ t with si := t.si + (t.tot - t.si - 1) } : Wd).en = true := he
  have hf2 : ({ t with si := t.si + (t.tot - t.si - 1) } : Wd).fa = 0 := hf
  have hn2 : ({ t with si := t.si + (t.tot - t.si - 1) } : Wd).tot ≤ ({ t with si := t.si + (t.tot - t.si - 1) } : Wd).si + 9 := by show t.tot ≤ t.si + (t.tot - t.si - 1) + 9; omega
  rw [Wd.left_run he2 hf2, ran_end he2 hf2 hn2, tick_end he2 hf2 hn2]
  refine ⟨rfl, hf, ?_, ?_, rfl, ?_⟩
  · show t.tot - (t.si + (t.tot - t.si - 1)) = 1; omega
  · show t.tot - (t.si + (t.tot - t.si - 1)) = 1; omega
  · unfold Wd.ran; rw [if_pos (by show (2 : Int) ≠ 0; decide)]
set_option maxRecDepth 100000 in
set_option maxHeartbeats 6400000 in
theorem wdogLeft (w : World) (y : Option Addr) (len cap : Nat) (a b : Int) (a0 : 0 ≤ a) (a1 : a < 18446744073709551616) (b0 : 0 ≤ b) (b1 : b < 18446744073709551616) (hy : len = 0 ∨ ∃ z off, y = some ⟨z, off, none⟩ ∧ len ≤ cap ∧ cap ≤ maxLen ∧ z < w.heap.size ∧ ∀ i, i < cap → ∃ K n o v : Int, w.cell? ⟨z, off + i * 4, none⟩ = some (.int .i64 K) ∧ w.cell? ⟨z, off + i * 4 + 1, none⟩ = some (.int .u64 n) ∧ w.cell? ⟨z, off + i * 4 + 2, none⟩ = some (.int .u32 o) ∧ w.cell? ⟨z, off + i * 4 + 3, none⟩ = some (.int .u32 v) ∧
      (-9223372036854775808 ≤ K ∧ K < 9223372036854775808) ∧ (0 ≤ n ∧ n < 18446744073709551616) ∧ (0 ≤ o ∧ o < 4294967296) ∧ (0 ≤ v ∧ v < 4294967296)) :
    Calls Try.prog 4 #[.slice y len cap, .int .u64 a, .int .u64 b] w fun e w' => e = .returned (.bool true) ∧ Below w.heap.size w w' := by
  have HY := Lib.hid hy
  clear hy
  go_enter Try.func4, Try.ntmps4
  go_wp2_with fail
  refine (dNew w).mono ?_
  rintro e w1 ⟨rfl, rfl⟩
  have A0 : DAt (w.alloc (.cells (dl wz).toArray tD (0, 0))) w.heap.size wz := blk_new w (.cells (dl wz).toArray tD (0, 0))
  have bb0 := trA (tr0 w) (.cells (dl wz).toArray tD (0, 0))
  have hs0 : (w.alloc (.cells (dl wz).toArray tD (0, 0))).heap.size = w.heap.size + 1 := by simp
  generalize w.alloc (.cells (dl wz).toArray tD (0, 0)) = W0 at *
  have M2 : VAt (W0.alloc zV) W0.heap.size wz := blk_new W0 zV
  have A2 := A0.below (trA (tr0 W0) zV)
  have bb2 := trA bb0 zV
  rw [hs0] at M2
  go_upto_region 2 with (fail)
  rw [zV_eq]
  clear A0 bb0 hs0
  generalize W0.alloc zV = W at *
  go_wp2_with fail
  go_loopw [7, 9] (fun l i wr => ∃ (k p : Nat) (t : Wd), k ≤ len ∧ k ≤ 30 ∧ i = .int .i64 k ∧ l = .pointer (some ⟨p, 0, none⟩) ∧ t.ok ∧ DAt wr p t ∧ VAt wr (w.heap.size + 1) t ∧ Below w.heap.size w wr ∧ w.heap.size ≤ p) (fun l i wr => len - (intOf i).toNat)
  case atStart => exact ⟨0, w.heap.size, wz, by omega, by omega, rfl, rfl, wz_ok, A2, M2, bb2, Nat.le_refl _⟩
  case round =>
    clear A2 M2 bb2
    obtain ⟨k, p, t, hk, hkl, rfl, rfl, ht, A, M, hB, hp⟩ := hrel
    by_cases hlt : k < len ∧ k < 30
    · obtain ⟨hlt, hlm⟩ := hlt
      rcases HY.out with hy | ⟨z, off, rfl, hlc, hcm, hbl, hz⟩
      · omega
      unfold maxLen at hcm
      obtain ⟨K, n, o, v, c0, c1, c2, c3, ⟨k0, k1⟩, ⟨n0, n1⟩, ⟨o0, o1⟩, ⟨v0, v1⟩⟩ := hz k (by omega)
      rw [← hB.cell (p := ⟨z, _, none⟩) (by simpa using hbl)] at c0 c1 c2 c3
      clear hz
      have hbw : z < wr.heap.size := by have := hB.size; omega
      have hg := gcell
      have hpm : p ≠ w.heap.size + 1 := apart_types A M rfl
      go_wp2_with fail
      refine wp_region_mix_below 6 (by kernel_rfl) (by kernel_rfl) (by intro _ _ d _ _ h; cases d <;> exact h) ?_
      simp only [List.take_succ_cons, List.take_zero, List.drop_succ_cons, List.drop_zero]
      repeat (first
        | go_big_quiet_skip
        | (go_big_quiet_want; first
            | (refine qloadV (.tmp 8) rfl rfl M.grown ?_; go_simp; go_big_quiet_on)
            | (go_big_quiet_op; first | go_big_quiet_on)))
      refine wpQuiet_nil ?_
      intro _ hw'
      obtain ⟨⟨dq, osq⟩, hw''⟩ := hw'
      subst hw''
      have hbr := below_regrown wr dq osq
      have A1 := A.below hbr
      have M1 := M.below hbr
      have B1 := tr hB hbr
      clear A M hB hbr c0 c1 c2 c3 hg hbw
      dsimp only at A1 M1 B1 ⊢
      generalize grow (redrawn wr dq) osq = W1 at *
      go_wp2_with fail
      refine (dDo t K n o v p _ ht A1 n0 n1 o0 o1 v0 v1).mono ?_
      rintro e W2 ⟨p', t', rfl, ht', A2, hpp, ho⟩
      have M2 := M1.off ho (fun e => hpm e.symm)
      have B2 := off_below B1 ho hp (Nat.le_refl _)
      have hp' : w.heap.size ≤ p' := by have := B1.size; omega
      have A3 := A2.elseRow (w.heap.size + 1) (vl t').toArray (apart_types A2 M2 rfl)
      have M3 := VAt.row M2 t'
      have B3 := below_setRow B2 (vl t').toArray (g := w.heap.size + 1) (by omega)
      clear A1 M1 B1 ho hpp hpm
      go_wp2_with (refine storeV rfl (.tmp 8) (.tmp 36) rfl rfl rfl M2 ?_)
      clear A2 M2 B2
      generalize W2.setRow (w.heap.size + 1) (vl t').toArray = W3 at *
      go_roundw
      case rel => exact ⟨k + 1, p', t', by omega, by omega, by go_num, rfl, ht', A3, M3, B3, hp'⟩
      case measure => simp [intOf]; omega
    · clear M
      have fin : (k < len ∧ ¬ k < 30) ∨ ¬ k < len := by omega
      clear hlt hk hkl
      have ha : 0 ≤ a % 4611686018427387904 ∧ a % 4611686018427387904 < 4611686018427387904 := by omega
      have hb : 0 ≤ b % 4611686018427387904 ∧ b % 4611686018427387904 < 4611686018427387904 := by omega
      rcases fin with ⟨f1, f2⟩ | f1
      all_goals
        go_wp2_with fail
        refine (dCopy t p _ A).mono ?_
        rintro e W1 ⟨rfl, Q1, hbl⟩
        have hpq : p ≠ wr.heap.size := by have := A.lt; omega
        have hq0 : w.heap.size ≤ wr.heap.size := hB.size
        have A1 := A.below hbl
        have B1 := tr hB hbl
        clear A hB hbl
        generalize wr.heap.size = q at *
        go_wp2_with fail
        refine (dCopy t p _ A1).mono ?_
        rintro e W2 ⟨rfl, R1, hbl⟩
        have hpr : p ≠ W1.heap.size := by have := A1.lt; omega
        have hqr : q ≠ W1.heap.size := by have := Q1.lt; omega
        have hr0 : w.heap.size ≤ W1.heap.size := B1.size
        have A := A1.below hbl
        have Q := Q1.below hbl
        have hB := tr B1 hbl
        clear A1 Q1 B1 hbl
        generalize W1.heap.size = r at *
        go_upto_region 14 with (fail)
        generalize a % 4611686018427387904 = a' at *
        generalize b % 4611686018427387904 = b' at *
        have hto : (t.tick a').ok := Wd.tick_ok ht ha.1
        have ba := Wd.ran_bounds ht ha.1
        have bb := Wd.ran_bounds hto hb.1
        have hrr := Wd.ran_ran ht ha.1 hb.1
        have htt := Wd.tick_tick (t := t) ha.1 hb.1
        have T1 := Lib.hid (fun w x => dTick t a' q w ht x (by omega) (by omega))
        have T2 := Lib.hid (fun w x => by have := dTick (t.tick a') b' q w hto x (by omega) (by omega); rw [htt] at this; exact this)
        have T3 := Lib.hid (fun w x => by have := dTick t (a' + b') r w ht x (by omega) (by omega); rw [← hrr] at this; exact this)
        have Q' := Q
        clear hto hrr htt Q
        generalize t.ran a' = RA at *
        generalize (t.tick a').ran b' = RB at *
        generalize t.tick (a' + b') = s at *
        have zV : (RA + RB != RA + RB) = false := by simp
        have zS : (s.si != s.si) = false := by simp
        have zF : (s.fa != s.fa) = false := by simp
        go_wp2_with fail
        refine (T1.out _ Q').mono ?_
        rintro e W3 ⟨rfl, Q1, ho⟩
        have A1 := A.off ho hpq
        have R2 := R1.off ho (fun e => hqr e.symm)
        have B1 := off_below hB ho hq0 (Nat.le_refl _)
        clear A Q' R1 hB ho T1
        go_wp2_with fail
        refine (T2.out _ Q1).mono ?_
        rintro e W4 ⟨rfl, Q2, ho⟩
        have A := A1.off ho hpq
        have R := R2.off ho (fun e => hqr e.symm)
        have hB := off_below B1 ho hq0 (Nat.le_refl _)
        clear A1 Q1 R2 B1 ho T2
        go_wp2_with fail
        refine (T3.out _ R).mono ?_
        rintro e W5 ⟨rfl, R1, ho⟩
        have A1 := A.off ho hpr
        have Q1 := Q2.off ho hqr
        have B1 := off_below hB ho hr0 (Nat.le_refl _)
        clear A Q2 R hB ho T3
        go_wp2_with fail
        refine (dSince s q _ Q1).mono ?_
        rintro e w' ⟨rfl, rfl⟩
        go_wp2_with fail
        refine (dSince s r _ R1).mono ?_
        rintro e w' ⟨rfl, rfl⟩
        go_wp2_with fail
        refine (dFault s q _ Q1).mono ?_
        rintro e w' ⟨rfl, rfl⟩
        go_wp2_with fail
        refine (dFault s r _ R1).mono ?_
        rintro e w' ⟨rfl, rfl⟩
        clear Q1 R1 zV zS zF
        have LF := Lib.hid (fun w a => dLeft t p w ht a)
        have EN := Lib.hid (fun w a => dEnabled t p w a)
        have FA := Lib.hid (fun w a => dFault t p w a)
        by_cases hc : t.en = true ∧ t.fa = 0
        · obtain ⟨he, hf⟩ := hc
          have h8 := early8 ht he hf
          have hL := Wd.left_bounds ht
          have o1 : (t.tick (t.left - 1)).ok := Wd.tick_ok ht (by omega)
          have o2 : ((t.tick (t.left - 1)).tick 9).ok := Wd.tick_ok o1 (by omega)
          have T1 := Lib.hid (fun w a => by have := dTick t (t.left - 1) p w ht a (by omega) (by omega); rw [h8.1] at this; exact this)
          rw [he] at EN
          rw [hf] at FA
          have hlp : 0 < t.left := hL.1
          have hlq : t.left < 18446744073709551616 := by omega
          have hl0 : (t.left == 0) = false := by simp; omega
          have hl1 : (t.left - 1 != t.left - 1) = false := by simp
          clear he hf
          generalize t.left = L at *
          generalize t.tick (L - 1) = x1 at *
          have T2 := Lib.hid (fun w a => by have := dTick x1 9 p w o1 a (by omega) (by omega); rw [h8.2.2.2.1] at this; exact this)
          have F1 := Lib.hid (fun w a => by have := dFault x1 p w a; rw [h8.2.1] at this; exact this)
          have L1 := Lib.hid (fun w a => by have := dLeft x1 p w o1 a; rw [h8.2.2.1] at this; exact this)
          generalize x1.tick 9 = x2 at *
          have F2 := Lib.hid (fun w a => by have := dFault x2 p w a; rw [h8.2.2.2.2.1] at this; exact this)
          have T3 := Lib.hid (fun w a => by have := dTick x2 9 p w o2 a (by omega) (by omega); rw [h8.2.2.2.2.2] at this; exact this)
          clear h8 o1 o2 hL ht
          go_wp2_with fail
          refine (LF.out _ A1).mono ?_
          rintro e W6 ⟨rfl, hbl⟩
          have A := A1.below hbl
          have hB := tr B1 hbl
          clear A1 B1 hbl
          go_wp2_with fail
          refine (EN.out _ A).mono ?_
          rintro e w' ⟨rfl, rfl⟩
          go_wp2_with fail
          refine (FA.out _ A).mono ?_
          rintro e w' ⟨rfl, rfl⟩
          go_wp2_with fail
          refine (T1.out _ A).mono ?_
          rintro e W7 ⟨rfl, A1, ho⟩
          have B1 := off_below hB ho hp (Nat.le_refl _)
          clear A hB ho
          go_wp2_with fail
          refine (F1.out _ A1).mono ?_
          rintro e w' ⟨rfl, rfl⟩
          go_wp2_with fail
          refine (L1.out _ A1).mono ?_
          rintro e W8 ⟨rfl, hbl⟩
          have A := A1.below hbl
          have hB := tr B1 hbl
          clear A1 B1 hbl
          go_wp2_with fail
          refine (dKnown _).mono ?_
          rintro e W9 ⟨rfl, hbl⟩
          have A1 := A.below hbl
          have B1 := tr hB hbl
          clear A hB hbl
          go_wp2_with fail
          refine (T2.out _ A1).mono ?_
          rintro e W10 ⟨rfl, A, ho⟩
          have hB := off_below B1 ho hp (Nat.le_refl _)
          clear A1 B1 ho
          go_wp2_with fail
          refine (F2.out _ A).mono ?_
          rintro e w' ⟨rfl, rfl⟩
          go_wp2_with fail
          refine (T3.out _ A).mono ?_
          rintro e W11 ⟨rfl, A1, ho⟩
          have B1 := off_below hB ho hp (Nat.le_refl _)
          clear A hB ho
          go_wp2_with fail
          go_ret
          exact ⟨rfl, B1⟩
        · rw [Wd.left_not hc] at LF
          have hd : t.en = false ∨ (t.en = true ∧ (t.fa != 0) = true) := by
            cases he : t.en
            · exact .inl rfl
            · refine .inr ⟨rfl, ?_⟩
              simp only [bne_iff_ne, ne_eq]
              exact fun e => hc ⟨he, e⟩
          clear hc
          rcases hd with he | ⟨he, hf⟩
          all_goals
            rw [he] at EN
            clear he
            go_wp2_with fail
            refine (LF.out _ A1).mono ?_
            rintro e W6 ⟨rfl, hbl⟩
            have A := A1.below hbl
            have hB := tr B1 hbl
            clear A1 B1 hbl
            go_wp2_with fail
            refine (EN.out _ A).mono ?_
            rintro e w' ⟨rfl, rfl⟩
            go_wp2_with (go_at_call 15; refine (FA.out _ A).mono ?_; rintro e w' ⟨rfl, rfl⟩)
            refine (dKnown _).mono ?_
            rintro e W9 ⟨rfl, hbl⟩
            have B1 := tr hB hbl
            clear A hB hbl
            go_wp2_with fail
            go_ret
            exact ⟨rfl, B1⟩
end Go.Proofs.Ytlgdlmhgifhchaa.B
