/- The law ClintLines: a hart's line is high just from its comparator on. -/
import Derived.Test.YtfkkimbdjobpmaaL05
namespace Go.Proofs.Ytfkkimbdjobpmaa.B
set_option linter.unusedVariables false
set_option linter.unusedSimpArgs false
open Go.ChangeShapes Go.WideShapes Go.RowKit Go.Sort Go.MapKept
theorem num_harts (a : Int) : ∃ N : Nat, wrap64 (1 + wrap64 ((IntKind.u64.wrap a).tmod 8)) = (N : Int) ∧ 1 ≤ N ∧ N ≤ 8 := by
  have h0 : 0 ≤ IntKind.u64.wrap a ∧ IntKind.u64.wrap a < 18446744073709551616 := by
    have := bounds_u64 (wf_wrap .u64 a)
    omega
  refine ⟨(1 + (IntKind.u64.wrap a) % 8).toNat, ?_, by omega, by omega⟩
  rw [Int.tmod_eq_emod_of_nonneg h0.1]
  unfold wrap64
  omega
theorem wrapN (N : Nat) (h8 : N ≤ 8) : IntKind.u64.wrap (N : Int) = N := by
  have : IntKind.u64.wrap (N : Int) = (N : Int) % 18446744073709551616 := rfl
  omega
theorem num_hart (h : Int) (N : Nat) (h1 : 1 ≤ N) (h8 : N ≤ 8) : ∃ H : Nat, wrap64 ((IntKind.u64.wrap h).tmod (N : Int)) = (H : Int) ∧ H < N := by
  have h0 : 0 ≤ IntKind.u64.wrap h ∧ IntKind.u64.wrap h < 18446744073709551616 := by
    have := bounds_u64 (wf_wrap .u64 h)
    omega
  rw [Int.tmod_eq_emod_of_nonneg h0.1]
  have g0 := Int.emod_nonneg (IntKind.u64.wrap h) (show (N : Int) ≠ 0 by omega)
  have g1 := Int.emod_lt_of_pos (IntKind.u64.wrap h) (show (0 : Int) < N by omega)
  refine ⟨((IntKind.u64.wrap h) % N).toNat, ?_, by omega⟩
  unfold wrap64
  omega
/-- Of two clints in one world: neither shares with the other. -/
structure Two (w0 w : World) (p m p2 m2 : Nat) (t : Int) (N : Nat) (D : Nat → Int) : Prop where
  a : CAt w p m t N D zeS
  b : CAt w p2 m2 t N D zeS
  hb : Below w0.heap.size w0 w
  h1 : w0.heap.size ≤ p
  h2 : w0.heap.size ≤ p2
  ne : p ≠ p2
theorem Two.below {w0 w w' : World} {p m p2 m2 : Nat} {t : Int} {N : Nat} {D : Nat → Int} (h : Two w0 w p m p2 m2 t N D) (hb : Below w.heap.size w w') : Two w0 w' p m p2 m2 t N D :=
  ⟨h.a.below hb, h.b.below hb, tr h.hb hb, h.h1, h.h2, h.ne⟩
theorem add_small {T n : Int} (h : T + n < 18446744073709551615) : addS T n = T + n := by unfold addS; rw [if_neg (by omega)]
theorem cLn_never {t : Int} {n : Nat} {D : Nat → Int} {x : Nat} (hd : D x = 18446744073709551615) (ht : t < 18446744073709551615) : cLn t n D (x : Int) = false := by
  unfold cLn; rw [Int.toNat_natCast, hd, decide_eq_false (by omega), Bool.and_false]
set_option maxRecDepth 100000 in
set_option maxHeartbeats 6400000 in
theorem clintLines (w : World) (a h v u : Int) (up : Bool) (y : Option Addr) (len cap : Nat) (a0 : -9223372036854775808 ≤ a) (a1 : a < 9223372036854775808) (h0 : -9223372036854775808 ≤ h) (h1 : h < 9223372036854775808) (v0 : 0 ≤ v) (v1 : v < 4294967296) (u0 : 0 ≤ u) (u1 : u < 4294967296)
    (hy : len = 0 ∨ ∃ b off, ∃ zs : Nat → Int, y = some ⟨b, off, none⟩ ∧ len ≤ cap ∧ cap ≤ maxLen ∧ b < w.heap.size ∧ ∀ i, i < cap → w.cell? ⟨b, off + i, none⟩ = some (.int .u64 (zs i)) ∧ (Lit.int .u64 (zs i)).wf = true) :
    Calls Try.prog 4 #[.int .i64 a, .int .i64 h, .int .u32 v, .int .u32 u, .bool up, .slice y len cap] w
      fun e w' => e = .returned (.bool true) ∧ Below w.heap.size w w' := by
  obtain ⟨N, hN, n1, n8⟩ := num_harts a
  obtain ⟨H, hH, hHN⟩ := num_hart h N n1 n8
  have HY := Lib.hid hy
  clear hy
  go_enter Try.func4, Try.ntmps4
  have HN := Lib.hid hN
  have HH := Lib.hid hH
  clear hN hH
  go_upto_region 2 with (fail)
  simp only [HN.out]
  have eW := wrapN N n8
  go_upto_region 3 with (fail)
  simp only [HH.out]
  clear HN HH a0 a1 h0 h1 eW
  go_wp2_with fail
  refine (cNew N w n1 n8).mono ?_
  rintro e w1 ⟨p, hp, rfl, C, hb⟩
  go_upto_if 48 with (fail)
  have hC : Hid (CAt w1 p w.heap.size 0 N nvD zeS) := Lib.hid C
  clear C
  go_cut [] from 49 (fun w' => ∃ D1, CAt w' p w.heap.size 0 N D1 zeS ∧ (∀ x, x ≠ H → D1 x = 18446744073709551615) ∧ Below w.heap.size w w')
  case first =>
    cases up
    · go_wp2_with fail
      go_meet
      case rel => exact ⟨nvD, hC.out, fun _ _ => rfl, hb⟩
    · go_wp2_with fail
      refine (cStoreHigh' u _ _ H N _ _ _ _ _ hC.out hHN u0 u1 rfl).mono ?_
      rintro e w2 ⟨rfl, C2, ho2⟩
      have hb2 := off_below hb ho2 hp (Nat.le_refl _)
      go_wp2_with fail
      go_meet
      case rel => exact ⟨_, C2, fun x hx => by rw [upd_ne _ _ hx]; rfl, hb2⟩
  case rest =>
    clear hC hb
    obtain ⟨D1, C, hD1, hb⟩ := hcut
    go_wp2_with fail
    refine (cStoreLow' v _ _ H N _ _ _ _ _ C hHN v0 v1 rfl).mono ?_
    rintro e w2 ⟨rfl, C2, ho2⟩
    have hb2 := off_below hb ho2 hp (Nat.le_refl _)
    clear C hb ho2
    go_wp2_with fail
    refine (cStoreHigh' u _ _ H N _ _ _ _ _ C2 hHN u0 u1 rfl).mono ?_
    rintro e w3 ⟨rfl, C3, ho3⟩
    have hb3 := off_below hb2 ho3 hp (Nat.le_refl _)
    clear C2 hb2 ho3
    obtain ⟨D, hD, hDH, hDx⟩ : ∃ D, upd (upd D1 H (join (hi (D1 H)) v)) H (join u (lo (upd D1 H (join (hi (D1 H)) v) H))) = D ∧ D H = u * 4294967296 + v ∧ ∀ x, x ≠ H → D x = 18446744073709551615 :=
      ⟨_, rfl, by rw [upd_at, upd_at, lo_join v0 v1]; rfl, fun x hx => by rw [upd_ne _ _ hx, upd_ne _ _ hx]; exact hD1 x hx⟩
    rw [hD] at C3
    clear hD hD1
    go_wp2_with fail
    refine (cCopy _ _ _ _ _ _ _ C3).mono ?_
    rintro e w4 ⟨m2, hm2, rfl, C4, hb4⟩
    have hT : Two w w4 p w.heap.size w3.heap.size m2 0 N D := ⟨C3.below hb4, C4, tr hb3 hb4, hp, hb3.size, by have := C3.ltp; omega⟩
    clear C3 C4 hb3 hb4 hm2
    have hp2 : w.heap.size ≤ w3.heap.size := hT.h2
    generalize w3.heap.size = p2 at *
    obtain ⟨d, hd, d0, d1⟩ : ∃ d, u * 4294967296 + v = d ∧ 0 ≤ d ∧ d < 18446744073709551616 := ⟨_, rfl, by omega, by omega⟩
    rw [hd] at hDH
    go_wp2_with fail
    clear hd
    go_loopw [19] (fun i wr => ∃ (k : Nat) (T : Int), k ≤ len ∧ k ≤ 20 ∧ i = .int .i64 k ∧ Two w wr p w.heap.size p2 m2 T N D ∧ 0 ≤ T ∧ T ≤ k * 576460752303423487) (fun i _ => 20 - (intOf i).toNat)
    case atStart => exact ⟨0, 0, by omega, by omega, rfl, hT, by omega, by omega⟩
    case round =>
      clear hT
      obtain ⟨k, T, hk, hk20, rfl, hT, T0, T1⟩ := hrel
      by_cases hlt : k < len ∧ k < 20
      · obtain ⟨hlt, h20⟩ := hlt
        rcases HY.out with hy | ⟨b, off, zs, rfl, hlc, hcm, hbl, hz⟩
        · omega
        unfold maxLen at hcm
        have hbw := hT.hb
        have zb := bounds_u64 (hz k (by omega)).2
        have hzk : wr.cell? ⟨b, off + k, none⟩ = some (.int .u64 (zs k)) := by
          rw [hbw.cell (by simpa using hbl)]; exact (hz k (by omega)).1
        clear hz hbw
        generalize zs k = z at *
        obtain ⟨q, hq, q0, q1⟩ : ∃ q, z % 576460752303423488 = q ∧ 0 ≤ q ∧ q < 576460752303423488 := ⟨_, rfl, by omega, by omega⟩
        go_upto_region 19 with (fail)
        simp only [hq]
        clear hq hzk
        go_wp2_with fail
        refine (cTick q _ _ _ _ _ _ _ hT.a q0 (by omega)).mono ?_
        rw [add_small (show T + q < _ by omega)]
        rintro e w5 ⟨rfl, A5, ho5⟩
        have B5 := hT.b.off ho5 (fun e => hT.ne e.symm) (fun e => clint_ne hT.b hT.a e)
        have hb5 := off_below hT.hb ho5 hT.h1 (Nat.le_refl _)
        go_wp2_with fail
        refine (cTick (q / 2) _ _ _ _ _ _ _ B5 (by omega) (by omega)).mono ?_
        rw [add_small (show T + q / 2 < _ by omega)]
        rintro e w6 ⟨rfl, B6, ho6⟩
        have A6 := A5.off ho6 hT.ne (fun e => clint_ne A5 B5 e)
        have hb6 := off_below hb5 ho6 hT.h2 (Nat.le_refl _)
        go_wp2_with fail
        refine (cTick (q - q / 2) _ _ _ _ _ _ _ B6 (by omega) (by omega)).mono ?_
        rw [add_small (show T + q / 2 + (q - q / 2) < _ by omega), show T + q / 2 + (q - q / 2) = T + q by omega]
        rintro e w7 ⟨rfl, B7, ho7⟩
        have A7 := A6.off ho7 hT.ne (fun e => clint_ne A6 B6 e)
        have hb7 := off_below hb6 ho7 hT.h2 (Nat.le_refl _)
        have hT7 : Two w w7 p w.heap.size p2 m2 (T + q) N D := ⟨A7, B7, hb7, hT.h1, hT.h2, hT.ne⟩
        clear hT A5 B5 A6 B6 A7 B7 hb5 hb6 hb7 ho5 ho6 ho7
        obtain ⟨V, hV, V0, V1⟩ : ∃ V, T + q = V ∧ 0 ≤ V ∧ V ≤ (k + 1) * 576460752303423487 := ⟨_, rfl, by omega, by omega⟩
        rw [hV] at hT7
        have HL := Lib.hid (cLn_at (t := V) (n := N) hHN hDH)
        have HX := Lib.hid (fun (x : Nat) (hx : x ≠ H) => cLn_never (t := V) (n := N) (hDx x hx) (by omega))
        have HDH := Lib.hid hDH
        have HDx := Lib.hid hDx
        clear hV q0 q1 T0 T1
        cases hB : decide (d ≤ V)
        all_goals
          rw [hB] at HL
          go_wp2_with fail
          refine (cLine V H N D zeS p _ _ hT7.a).mono ?_
          rw [HL.out]
          rintro e w8 ⟨rfl, hb8⟩
          have hT8 := hT7.below hb8
          clear hT7
          go_wp2_with fail
          refine (cTime V N D zeS p _ _ hT8.a).mono ?_
          rintro e w' ⟨rfl, rfl⟩
          go_wp2_with fail
          refine (cTime V N D zeS p2 _ _ hT8.b).mono ?_
          rintro e w' ⟨rfl, rfl⟩
          go_wp2_with fail
          refine (cTime V N D zeS p _ _ hT8.a).mono ?_
          rintro e w' ⟨rfl, rfl⟩
          have zV : (V != V) = false := by simp
          go_wp2_with fail
          refine (cLine V H N D zeS p2 _ _ hT8.b).mono ?_
          rw [HL.out]
          rintro e w9 ⟨rfl, hb9⟩
          have hT9 := hT8.below hb9
          clear hT8
          go_wp2_with fail
          refine (cLine V H N D zeS p _ _ hT9.a).mono ?_
          rw [HL.out]
          rintro e w10 ⟨rfl, hb10⟩
          have hT10 := hT9.below hb10
          clear hT9 hb8 hb9 hb10
          go_wp2_with fail
          go_loopw [21] (fun x wx => ∃ j : Nat, j ≤ N ∧ x = .int .i64 j ∧ Two w wx p w.heap.size p2 m2 V N D) (fun x _ => N - (intOf x).toNat)
          case atStart => exact ⟨0, by omega, rfl, hT10⟩
          case round =>
            clear hT10
            obtain ⟨j, hj, rfl, hT11⟩ := hrel
            by_cases hjl : j < N
            · by_cases hjH : j = H
              · have qj : ((j : Int) != (H : Int)) = false := by simp; omega
                go_wp2_with fail
                go_roundw
                case rel => exact ⟨j + 1, by omega, by go_num, hT11⟩
                case measure => simp [intOf]; omega
              · have qj : ((j : Int) != (H : Int)) = true := by simp; omega
                go_wp2_with fail
                refine (cLine V j N D zeS p _ _ hT11.a).mono ?_
                rw [HX.out j hjH]
                rintro e w12 ⟨rfl, hb12⟩
                have hT12 := hT11.below hb12
                clear hT11
                go_wp2_with fail
                go_roundw
                case rel => exact ⟨j + 1, by omega, by go_num, hT12⟩
                case measure => simp [intOf]; omega
            · go_wp2_with fail
              go_roundw
              case rel => exact ⟨k + 1, V, by omega, by omega, by go_num, hT11, V0, by omega⟩
              case measure => simp [intOf]; omega
      · have HC := Lib.hid (show cCmp N D (H : Int) = d by unfold cCmp isHart; rw [if_pos (by simp; omega), Int.toNat_natCast, hDH])
        clear hDH hDx
        by_cases hlt2 : k < len
        all_goals
          go_wp2_with fail
          refine (cKnown _).mono ?_
          rintro e w1 ⟨rfl, hb1⟩
          have hT2 := hT.below hb1
          go_wp2_with fail
          refine (cCompare H T N D zeS p _ _ hT2.a).mono ?_
          rw [HC.out]
          rintro e w' ⟨rfl, rfl⟩
          have zd := self_eq d
          go_wp2_with fail
          go_ret
          exact ⟨rfl, hT2.hb⟩
end Go.Proofs.Ytfkkimbdjobpmaa.B
