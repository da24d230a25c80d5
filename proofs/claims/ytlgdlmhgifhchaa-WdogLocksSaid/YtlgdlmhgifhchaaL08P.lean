/- The law WdogPlays: whatever a watchdog is asked. -/
import Derived.Test.YtlgdlmhgifhchaaL08D
import Derived.Test.YtlgdlmhgifhchaaMix
import Derived.Deep.Cut
namespace Go.Proofs.Ytlgdlmhgifhchaa.B
set_option linter.unusedVariables false
set_option linter.unusedSimpArgs false
open Go.ChangeShapes Go.WideShapes Go.RowKit Go.Sort Go.MapKept
set_option maxRecDepth 100000 in
set_option maxHeartbeats 6400000 in
theorem wdogPlays (w : World) (y : Option Addr) (len cap : Nat) (hy : len = 0 ∨ ∃ b off, y = some ⟨b, off, none⟩ ∧ len ≤ cap ∧ cap ≤ maxLen ∧ b < w.heap.size ∧ ∀ i, i < cap → ∃ K n o v : Int, w.cell? ⟨b, off + i * 4, none⟩ = some (.int .i64 K) ∧ w.cell? ⟨b, off + i * 4 + 1, none⟩ = some (.int .u64 n) ∧ w.cell? ⟨b, off + i * 4 + 2, none⟩ = some (.int .u32 o) ∧ w.cell? ⟨b, off + i * 4 + 3, none⟩ = some (.int .u32 v) ∧
      (-9223372036854775808 ≤ K ∧ K < 9223372036854775808) ∧ (0 ≤ n ∧ n < 18446744073709551616) ∧ (0 ≤ o ∧ o < 4294967296) ∧ (0 ≤ v ∧ v < 4294967296)) :
    Calls Try.prog 3 #[.slice y len cap] w fun e w' => e = .returned (.bool true) ∧ Below w.heap.size w w' := by
  have HY := Lib.hid hy
  clear hy
  go_enter Try.func3, Try.ntmps3
  go_wp2_with fail
  refine (dNew w).mono ?_
  rintro e w1 ⟨rfl, rfl⟩
  have A0 : DAt (w.alloc (.cells (dl wz).toArray tD (0, 0))) w.heap.size wz := blk_new w (.cells (dl wz).toArray tD (0, 0))
  have b0 := trA (tr0 w) (.cells (dl wz).toArray tD (0, 0))
  have hs0 : (w.alloc (.cells (dl wz).toArray tD (0, 0))).heap.size = w.heap.size + 1 := by simp
  generalize w.alloc (.cells (dl wz).toArray tD (0, 0)) = W0 at *
  have M2 : VAt (W0.alloc zV) W0.heap.size wz := blk_new W0 zV
  have A2 := A0.below (trA (tr0 W0) zV)
  have b2 := trA b0 zV
  rw [hs0] at M2
  go_upto_region 2 with (fail)
  rw [zV_eq]
  clear A0 b0 hs0
  generalize W0.alloc zV = W at *
  go_wp2_with fail
  go_loopw [3, 5] (fun l i wr => ∃ (k p : Nat) (t : Wd), k ≤ len ∧ k ≤ 80 ∧ i = .int .i64 k ∧ l = .pointer (some ⟨p, 0, none⟩) ∧ t.ok ∧ DAt wr p t ∧ VAt wr (w.heap.size + 1) t ∧ Below w.heap.size w wr ∧ w.heap.size ≤ p) (fun l i wr => len - (intOf i).toNat)
  case atStart => exact ⟨0, w.heap.size, wz, by omega, by omega, rfl, rfl, wz_ok, A2, M2, b2, Nat.le_refl _⟩
  case round =>
    clear A2 M2 b2
    obtain ⟨k, p, t, hk, hkl, rfl, rfl, ht, A, M, hB, hp⟩ := hrel
    by_cases hlt : k < len ∧ k < 80
    · obtain ⟨hlt, hlm⟩ := hlt
      rcases HY.out with hy | ⟨b, off, rfl, hlc, hcm, hbl, hz⟩
      · omega
      unfold maxLen at hcm
      obtain ⟨K, n, o, v, c0, c1, c2, c3, ⟨k0, k1⟩, ⟨n0, n1⟩, ⟨o0, o1⟩, ⟨v0, v1⟩⟩ := hz k (by omega)
      rw [← hB.cell (p := ⟨b, _, none⟩) (by simpa using hbl)] at c0 c1 c2 c3
      clear hz
      have hbw : b < wr.heap.size := by have := hB.size; omega
      have hg := gcell
      have hpm : p ≠ w.heap.size + 1 := apart_types A M rfl
      go_wp2_with fail
      refine wp_region_mix_below 6 (by kernel_rfl) (by kernel_rfl) (by intro _ _ d _ _ h; cases d <;> exact h) ?_
      simp only [List.take_succ_cons, List.take_zero, List.drop_succ_cons, List.drop_zero]
      repeat (first
        | go_big_quiet_skip
        | (go_big_quiet_want; first
            | (refine qloadV (.tmp 4) rfl rfl M.grown ?_; go_simp; go_big_quiet_on)
            | (go_big_quiet_op; first | go_big_quiet_on)))
      refine wpQuiet_nil ?_
      intro _ hw'
      obtain ⟨⟨dq, osq⟩, hw''⟩ := hw'
      subst hw''
      have hbr := below_regrown wr dq osq
      have A1 := A.below hbr
      have M1 := M.below hbr
      have B1 := tr hB hbr
      clear A M hB hbr c0 c1 c2 c3 hg hbw
      dsimp only at A1 M1 B1 ⊢
      generalize grow (redrawn wr dq) osq = W1 at *
      go_wp2_with fail
      refine (dDo t K n o v p _ ht A1 n0 n1 o0 o1 v0 v1).mono ?_
      rintro e W2 ⟨p', t', rfl, ht', A2, hpp, ho⟩
      have M2 := M1.off ho (fun e => hpm e.symm)
      have B2 := off_below B1 ho hp (Nat.le_refl _)
      have hp' : w.heap.size ≤ p' := by have := B1.size; omega
      have A3 := A2.elseRow (w.heap.size + 1) (vl t').toArray (apart_types A2 M2 rfl)
      have M3 := VAt.row M2 t'
      have B3 := below_setRow B2 (vl t').toArray (g := w.heap.size + 1) (by omega)
      clear A1 M1 B1 ho hpp hpm
      go_upto_region 9 with (refine storeV rfl (.tmp 4) (.tmp 30) rfl rfl rfl M2 ?_)
      clear A2 M2 B2
      generalize W2.setRow (w.heap.size + 1) (vl t').toArray = W3 at *
      go_wp2_with (refine loadVg (.tmp 4) rfl rfl rfl M3 ?_)
      refine (dAlike _ _ _ ht' A3).mono ?_
      rintro e W4 ⟨rfl, hb⟩
      have A4 := A3.below hb
      have M4 := M3.below hb
      have B4 := tr B3 hb
      clear A3 M3 B3 hb
      go_wp2_with fail
      go_roundw
      case rel => exact ⟨k + 1, p', t', by omega, by omega, by go_num, rfl, ht', A4, M4, B4, hp'⟩
      case measure => simp [intOf]; omega
    · clear A M
      by_cases hlt2 : k < len
      all_goals
        go_wp2_with fail
        refine (dKnown _).mono ?_
        rintro e w1 ⟨rfl, hb1⟩
        go_wp2_with fail
        go_ret
        exact ⟨rfl, tr hB hb1⟩
end Go.Proofs.Ytlgdlmhgifhchaa.B
