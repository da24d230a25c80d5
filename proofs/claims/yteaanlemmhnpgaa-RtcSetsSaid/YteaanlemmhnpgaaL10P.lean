/- The law RtcPlays: whatever a clock is asked. (Written by tools/gen_l10d.py.) -/
import Derived.Test.YteaanlemmhnpgaaL10D
import Derived.Test.YteaanlemmhnpgaaMix
import Derived.Deep.Cut
namespace Go.Proofs.Yteaanlemmhnpgaa.B
set_option linter.unusedVariables false
set_option linter.unusedSimpArgs false
open Go.ChangeShapes Go.WideShapes Go.RowKit Go.Sort Go.MapKept
set_option maxRecDepth 100000 in
set_option maxHeartbeats 6400000 in
theorem rtcPlays1 (w : World) (d : Int) (d0 : 1 ≤ d) (d1 : d < 4294967296) (y : Option Addr) (len cap : Nat) (hy : len = 0 ∨ ∃ b off, y = some ⟨b, off, none⟩ ∧ len ≤ cap ∧ cap ≤ maxLen ∧ b < w.heap.size ∧ ∀ i, i < cap → ∃ K n o v : Int, w.cell? ⟨b, off + i * 4, none⟩ = some (.int .i64 K) ∧ w.cell? ⟨b, off + i * 4 + 1, none⟩ = some (.int .u64 n) ∧ w.cell? ⟨b, off + i * 4 + 2, none⟩ = some (.int .u32 o) ∧ w.cell? ⟨b, off + i * 4 + 3, none⟩ = some (.int .u32 v) ∧
      (-9223372036854775808 ≤ K ∧ K < 9223372036854775808) ∧ (0 ≤ n ∧ n < 18446744073709551616) ∧ (0 ≤ o ∧ o < 4294967296) ∧ (0 ≤ v ∧ v < 4294967296)) :
    Calls Try.prog 3 #[.int .u32 d, .slice y len cap] w fun e w' => e = .returned (.bool true) ∧ Below w.heap.size w w' := by
  have HY := Lib.hid hy
  clear hy
  have q : (d == 0) = false := by simp; omega
  go_enter Try.func3, Try.ntmps3
  go_wp2_with fail
  refine (eNew d w d0 d1).mono ?_
  rintro e w1 ⟨rfl, rfl⟩
  have A0 := ea_new w tRtc (rk0 d)
  have bb0 := trA (tr0 w) (oE tRtc (rk0 d))
  have hs0 : (w.alloc (oE tRtc (rk0 d))).heap.size = w.heap.size + 1 := by simp
  generalize w.alloc (oE tRtc (rk0 d)) = W0 at *
  have M2 : KAt (W0.alloc (oK (rk0 d))) W0.heap.size (rk0 d) := blk_new W0 _
  have A2 := A0.below (trA (tr0 W0) (oK (rk0 d)))
  have bb2 := trA bb0 (oK (rk0 d))
  rw [hs0] at M2
  go_upto_region 7 with (fail)
  rw [show Obj.cells #[.int .u32 d, .int .u32 0, .int .u32 0, .int .u64 0, .int .u32 0, .int .u32 0, .bool false, .bool false] 31 (0, 0) = oK (rk0 d) from rfl]
  clear A0 bb0 hs0
  generalize W0.alloc (oK (rk0 d)) = W at *
  have T0 := rk0_ok d0 d1
  generalize rk0 d = t0 at *
  go_wp2_with fail
  go_loopw [5, 8] (fun l i wr => ∃ (k p : Nat) (t : Rk), k ≤ len ∧ k ≤ 80 ∧ i = .int .i64 k ∧ l = .pointer (some ⟨p, 0, none⟩) ∧ t.ok ∧ EAt wr p tRtc t ∧ KAt wr (w.heap.size + 1) t ∧ Below w.heap.size w wr ∧ w.heap.size ≤ p) (fun l i wr => len - (intOf i).toNat)
  case atStart => exact ⟨0, w.heap.size, t0, by omega, by omega, rfl, rfl, T0, A2, M2, bb2, Nat.le_refl _⟩
  case round =>
    clear A2 M2 bb2 T0
    obtain ⟨k, p, t, hk, hkl, rfl, rfl, ht, A, M, hB, hp⟩ := hrel
    by_cases hlt : k < len ∧ k < 80
    · obtain ⟨hlt, hlm⟩ := hlt
      rcases HY.out with hy | ⟨z, off, rfl, hlc, hcm, hbl, hz⟩
      · omega
      unfold maxLen at hcm
      obtain ⟨K, n, o, v, c0, c1, c2, c3, ⟨k0, k1⟩, ⟨n0, n1⟩, ⟨o0, o1⟩, ⟨v0, v1⟩⟩ := hz k (by omega)
      rw [← hB.cell (p := ⟨z, _, none⟩) (by simpa using hbl)] at c0 c1 c2 c3
      clear hz
      have hbw : z < wr.heap.size := by have := hB.size; omega
      have hg := gcell
      have hpm : p ≠ w.heap.size + 1 := apart_types A M rfl
      go_wp2_with fail
      refine wp_region_mix_below 6 (by kernel_rfl) (by kernel_rfl) (by intro _ _ d _ _ h; cases d <;> exact h) ?_
      simp only [List.take_succ_cons, List.take_zero, List.drop_succ_cons, List.drop_zero]
      repeat (first
        | go_big_quiet_skip
        | (go_big_quiet_want; first
            | (refine qloadK (.tmp 7) rfl rfl M.grown ?_; go_simp; go_big_quiet_on)
            | (go_big_quiet_op; first | go_big_quiet_on)))
      refine wpQuiet_nil ?_
      intro _ hw'
      obtain ⟨⟨dq, osq⟩, hw''⟩ := hw'
      subst hw''
      have hbr := below_regrown wr dq osq
      have A1 := A.below hbr
      have M1 := M.below hbr
      have B1 := tr hB hbr
      clear A M hB hbr c0 c1 c2 c3 hg hbw
      dsimp only at A1 M1 B1 ⊢
      generalize grow (redrawn wr dq) osq = W1 at *
      go_wp2_with fail
      refine (eDo t K n o v p _ ht A1 n0 n1 o0 o1 v0 v1).mono ?_
      rintro e W2 ⟨p', t', rfl, ht', A2, hpp, ho⟩
      have M2 := M1.off ho (fun e => hpm e.symm)
      have B2 := off_below B1 ho hp (Nat.le_refl _)
      have hp' : w.heap.size ≤ p' := by have := B1.size; omega
      have A3 := A2.elseRow (w.heap.size + 1) (kl t').toArray (apart_types A2 M2 rfl)
      have M3 := KAt.row M2 t'
      have B3 := below_setRow B2 (kl t').toArray (g := w.heap.size + 1) (by omega)
      clear A1 M1 B1 ho hpp hpm
      go_upto_region 12 with (refine storeK rfl (.tmp 7) (.tmp 53) rfl rfl rfl M2 ?_)
      clear A2 M2 B2
      generalize W2.setRow (w.heap.size + 1) (kl t').toArray = W3 at *
      go_wp2_with (refine loadKg (.tmp 7) rfl rfl rfl M3 ?_)
      refine (eAlike _ _ _ ht' A3).mono ?_
      rintro e W4 ⟨rfl, hb⟩
      have A4 := A3.below hb
      have M4 := M3.below hb
      have B4 := tr B3 hb
      clear A3 M3 B3 hb
      go_wp2_with fail
      go_roundw
      case rel => exact ⟨k + 1, p', t', by omega, by omega, by go_num, rfl, ht', A4, M4, B4, hp'⟩
      case measure => simp [intOf]; omega
    · clear A M
      by_cases hlt2 : k < len
      all_goals
        go_wp2_with fail
        refine (eKnown _).mono ?_
        rintro e w1 ⟨rfl, hb1⟩
        go_wp2_with fail
        go_ret
        exact ⟨rfl, tr hB hb1⟩
theorem rtcPlays0 (w : World) (y : Option Addr) (len cap : Nat) :
    Calls Try.prog 3 #[.int .u32 0, .slice y len cap] w fun e w' => e = .returned (.bool true) ∧ Below w.heap.size w w' := by
  go_enter Try.func3, Try.ntmps3
  go_wp2_with fail
  refine (eNewZero w).mono ?_
  rintro e w1 ⟨rfl, rfl⟩
  go_wp2_with fail
  refine (eKnown _).mono ?_
  rintro e w1 ⟨rfl, hb1⟩
  go_wp2_with fail
  go_ret
  exact ⟨rfl, hb1⟩
end Go.Proofs.Yteaanlemmhnpgaa.B
