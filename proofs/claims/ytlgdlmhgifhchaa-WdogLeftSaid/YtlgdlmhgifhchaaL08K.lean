/- The law WdogLocks, with the lock. -/
import Derived.Test.YtlgdlmhgifhchaaL08KF
import Derived.Deep.CutRange
namespace Go.Proofs.Ytlgdlmhgifhchaa.B
set_option linter.unusedVariables false
set_option linter.unusedSimpArgs false
open Go.ChangeShapes Go.WideShapes Go.RowKit Go.Sort Go.MapKept
set_option maxRecDepth 100000 in
set_option maxHeartbeats 6400000 in
theorem wdogLocksT (w : World) (cl tot : Int) (y : Option Addr) (len cap : Nat) (c0 : 0 ≤ cl) (c1 : cl < 4294967296) (t0 : 0 ≤ tot) (t1 : tot < 4294967296)
    (hy : len = 0 ∨ ∃ z off, ∃ zs : Nat → Int, y = some ⟨z, off, none⟩ ∧ len ≤ cap ∧ cap ≤ maxLen ∧ z < w.heap.size ∧ ∀ i, i < cap → w.cell? ⟨z, off + i, none⟩ = some (.int .u32 (zs i)) ∧ 0 ≤ zs i ∧ zs i < 4294967296) :
    Calls Try.prog 7 #[.int .u32 cl, .int .u32 tot, .bool true, .slice y len cap] w fun e w' => e = .returned (.bool true) ∧ Below w.heap.size w w' := by
  have HY := Lib.hid hy
  clear hy
  go_enter Try.func7, Try.ntmps7
  go_upto_region 2 with (fail)
  have hT : 0 < 2 + tot % 100000 ∧ 2 + tot % 100000 ≤ 100001 := by omega
  generalize 2 + tot % 100000 = T at *
  obtain ⟨T0, T1⟩ := hT
  have hT0 : (T == 0) = false := by simp; omega
  have hc := Int.emod_nonneg cl (show T ≠ 0 by omega)
  have hcT := Int.emod_lt_of_pos cl T0
  go_upto_region 3 with (fail)
  generalize cl % T = c at *
  clear hT0 c0 c1 t0 t1
  go_wp2_with fail
  refine (dNew w).mono ?_
  rintro e w1 ⟨rfl, rfl⟩
  have A0 : DAt (w.alloc (.cells (dl wz).toArray tD (0, 0))) w.heap.size wz := blk_new w (.cells (dl wz).toArray tD (0, 0))
  have B0 := trA (tr0 w) (.cells (dl wz).toArray tD (0, 0))
  generalize w.alloc (.cells (dl wz).toArray tD (0, 0)) = W0 at *
  have S0 := Lib.hid (fun w' a => by have := dStore (bC c T) 0 3 w.heap.size w' (bC_ok (by omega) (by omega) (by omega) (by omega)) a (by omega) (by omega) (by omega) (by omega); rw [show (bC c T).sto 0 3 = bS true false c T 0 0 from b_on hcT true, show wSErr 0 = 0 from rfl] at this; exact this)
  go_wp2_with fail
  refine (dStore wz 4 c _ _ wz_ok A0 (by omega) (by omega) (by omega) (by omega)).mono ?_
  rw [b_closed, show wSErr 4 = 0 from rfl]
  rintro e W1 ⟨rfl, A1, ho⟩
  have B1 := off_below8 B0 ho (Nat.le_refl _)
  clear A0 B0 ho
  go_wp2_with fail
  refine (dStore (bC c 0) 8 T _ _ (bC_ok (by omega) (by omega) (by omega) (by omega)) A1 (by omega) (by omega) (by omega) (by omega)).mono ?_
  rw [b_total, show wSErr 8 = 0 from rfl]
  rintro e W2 ⟨rfl, A2, ho⟩
  have B2 := off_below8 B1 ho (Nat.le_refl _)
  clear A1 B1 ho
  go_wp2_with fail
  refine (S0.out _ A2).mono ?_
  rintro e W3 ⟨rfl, A3, ho⟩
  have B3 := off_below8 B2 ho (Nat.le_refl _)
  clear A2 B2 ho S0
  go_wp2_with fail
  go_loopw [11, 12, 13] (fun s11 s12 i wr => ∃ (k : Nat) (t : Wd), k ≤ len ∧ k ≤ 20 ∧ i = .int .i64 k ∧ s11 = .bool t.en ∧ s12 = .bool t.lk ∧ DAt wr w.heap.size t ∧ t.ok ∧ t.fa = 0 ∧ Hid (true = true → t.cl = c ∧ t.tot = T ∧ t.en = true ∧ t.lk = true) ∧ Below w.heap.size w wr) (fun s11 s12 i wr => len - (intOf i).toNat)
  case atStart => exact ⟨0, _, by omega, by omega, rfl, rfl, rfl, A3, bS_ok hc hcT (by omega) (by omega) T0, rfl, Lib.hid (fun e => ⟨rfl, rfl, rfl, e⟩), B3⟩
  case round =>
    clear A3 B3
    obtain ⟨k, t, hk, hkl, rfl, rfl, rfl, A, ht, hf, INV, hB⟩ := hrel
    by_cases hlt : k < len ∧ k < 20
    · obtain ⟨hlt, hlm⟩ := hlt
      rcases HY.out with hy | ⟨z, off, zs, rfl, hlc, hcm, hbl, hz⟩
      · omega
      unfold maxLen at hcm
      obtain ⟨z0, n0, n1⟩ := hz k (by omega)
      rw [← hB.cell (p := ⟨z, _, none⟩) (by simpa using hbl)] at z0
      have hzw : z < wr.heap.size := Nat.lt_of_lt_of_le hbl hB.size
      have hzp : z ≠ w.heap.size := by omega
      clear hz
      generalize zs k = m at *
      obtain ⟨o, ho⟩ : ∃ o, 4 * (m % 3) = o := ⟨_, rfl⟩
      have ho3 : o = 0 ∨ o = 4 ∨ o = 8 := by omega
      have hse : wSErr o = 0 := by rcases ho3 with rfl | rfl | rfl <;> rfl
      have ST := Lib.hid (by have := dStore t o m _ _ ht A (by omega) (by omega) n0 n1; rw [hse] at this; exact this)
      have hs := Wd.sto_ok ht (o := o) n0 n1
      have hsf := k_fa (v := m) hf ho3
      have INV2 : Hid (true = true → (t.sto o m).cl = c ∧ (t.sto o m).tot = T ∧ (t.sto o m).en = true ∧ (t.sto o m).lk = true) := Lib.hid (fun e => by rw [k_lock (INV.out e).2.2.2 hf ho3]; exact INV.out e)
      have EN : Hid (((o == 0) && !t.lk) = false → (t.sto o m).en = t.en ∧ (t.sto o m).lk = t.lk) := Lib.hid (fun e => by
        cases hl : t.lk
        · rw [hl] at e
          rcases ho3 with rfl | rfl | rfl
          · simp at e
          · rw [(k_four hf).1, (k_four hf).2]; exact ⟨rfl, hl⟩
          · rw [(k_eight hf).1, (k_eight hf).2]; exact ⟨rfl, hl⟩
        · rw [k_lock hl hf ho3]; exact ⟨rfl, hl⟩)
      have CT : Hid (((o == 0) && !t.lk) = true → (t.sto o m).en = ((t.en && (m % 2 == 1)) || ((!t.en && (m % 2 == 1)) && decide ((t.sto o m).cl < (t.sto o m).tot))) ∧ (t.sto o m).lk = (m / 2 % 2 == 1)) := Lib.hid (fun e => by
        have e0 : o = 0 := by simp at e; exact e.1
        subst e0
        exact k_ctl (by simpa using e) hf)
      clear hse ho3 INV
      generalize t.sto o m = s at *
      go_wp2_with fail
      refine ST.out.mono ?_
      rintro e W4 ⟨rfl, A1, ho'⟩
      have B1 := off_below8 hB ho' (Nat.le_refl _)
      have z1 := (ho'.cell (p := ⟨z, off + k, none⟩) (by simpa using hzw) (by simpa using hzp)).trans z0
      have hzw1 : z < W4.heap.size := by have := B1.size; omega
      clear A hB ho' z0 hzw ST
      go_wp2_with fail
      have L4 := dLoad s 4 _ _ hs A1 (by omega) (by omega)
      rw [Wd.val4] at L4
      refine L4.mono ?_
      rintro e W5 ⟨rfl, hb⟩
      have A := A1.below hb
      have hB := tr B1 hb
      have z0 := (hb.cell (p := ⟨z, off + k, none⟩) (by simpa using hzw1)).trans z1
      have hzw : z < W5.heap.size := by have := hb.size; omega
      clear A1 B1 hb z1 hzw1
      go_wp2_with fail
      have L8 := dLoad s 8 _ _ hs A (by omega) (by omega)
      rw [Wd.val8] at L8
      refine L8.mono ?_
      rintro e W6 ⟨rfl, hb⟩
      have A1 := A.below hb
      have B1 := tr hB hb
      have z1 := (hb.cell (p := ⟨z, off + k, none⟩) (by simpa using hzw)).trans z0
      have hzw1 : z < W6.heap.size := by have := hb.size; omega
      clear A hB hb z0 hzw
      go_upto_region 18 with (fail)
      obtain ⟨g, hg⟩ : ∃ g, ((o == 0) && !t.lk) = g := ⟨_, rfl⟩
      rw [hg] at EN CT
      go_cut [87] from 48 to 155 (fun s87 wx => s87 = .bool g ∧ wx = W6)
      case first =>
        clear EN CT INV2 A1 B1 z1
        cases hq : (o == 0)
        · rw [hq] at hg
          subst hg
          go_wp2_with fail
          go_meet
          exact ⟨rfl, rfl⟩
        · rw [hq] at hg
          subst hg
          go_wp2_with fail
          go_meet
          exact ⟨by simp, rfl⟩
      case rest =>
        obtain ⟨rfl, rfl⟩ := hcut
        clear hg
        go_upto_if 87 with fail
        go_cut [11, 12] from 48 to 155 (fun s11 s12 wx => s11 = .bool s.en ∧ s12 = .bool s.lk ∧ Below wc.heap.size wc wx)
        case first =>
          clear INV2 A1 B1
          cases g
          · obtain ⟨e1, e2⟩ := EN.out rfl
            clear EN CT
            go_wp2_with fail
            go_meet
            exact ⟨by rw [e1], by rw [e2], tr0 _⟩
          · obtain ⟨e1, e2⟩ := CT.out rfl
            have E1 := Lib.hid e1
            have E2 := Lib.hid e2
            clear EN CT e1 e2
            obtain ⟨en, hen⟩ : ∃ b, t.en = b := ⟨_, rfl⟩
            obtain ⟨b, hb⟩ : ∃ b, (m % 2 == 1) = b := ⟨_, rfl⟩
            obtain ⟨l, hl⟩ : ∃ b, decide (s.cl < s.tot) = b := ⟨_, rfl⟩
            rw [hen, hb, hl] at E1
            have hgc := gcell
            clear L4 L8 hs hsf ht hf
            simp only [hen]
            cases en <;> cases b
            all_goals
              go_wp2_with fail
              refine wp_region_quiet_below (by kernel_rfl) (by kernel_rfl) ?_
              repeat (go_big_quiet_step (fail))
              refine wpQuiet_nil ?_
              intro _ hw'
              obtain ⟨⟨dq, osq⟩, hw''⟩ := hw'
              subst hw''
              go_wp2_with fail
              go_meet
              exact ⟨by rw [E1.out]; simp, by rw [E2.out], below_regrown _ dq osq⟩
        case rest =>
          obtain ⟨rfl, rfl, hb⟩ := hcut
          have A := A1.below hb
          have hB := tr B1 hb
          clear A1 B1 hb
          have EN2 := Lib.hid (dEnabled s _ _ A)
          have LK2 := Lib.hid (dLocked s _ _ A)
          have FA2 := Lib.hid (by have := dFault s _ _ A; rw [hsf] at this; exact this)
          have zE : (s.en != s.en) = false := by simp
          have zL : (s.lk != s.lk) = false := by simp
          clear L4 L8 EN CT ht hf hzw1 hzp z1
          obtain ⟨i1, i2, i3, i4⟩ := INV2.out (by simp)
          have q1 : (s.cl != c) = false := by simp [i1]
          have q2 : (s.tot != T) = false := by simp [i2]
          clear i1 i2 i4
          rcases Nat.eq_zero_or_pos k with hk0 | hk0
          all_goals
            first
            | (have k1 : decide ((0 : Int) < (k : Int)) = true := decide_eq_true (by omega); have k2 : (0 : Int) < (k : Int) := by omega)
            | (have k1 : decide ((0 : Int) < (k : Int)) = false := decide_eq_false (by omega); have k2 : ¬ ((0 : Int) < (k : Int)) := by omega)
            go_wp2_with (first | (go_at_call 17; refine (EN2.out).mono ?_; rintro e w' ⟨rfl, rfl⟩) | (go_at_call 20; refine (LK2.out).mono ?_; rintro e w' ⟨rfl, rfl⟩) | (go_at_call 15; refine (FA2.out).mono ?_; rintro e w' ⟨rfl, rfl⟩))
            go_roundw
            case rel => exact ⟨k + 1, s, by omega, by omega, by go_num, by rw [i3], rfl, A, hs, hsf, Lib.hid (fun _ => INV2.out (by simp)), hB⟩
            case measure => simp [intOf]; omega
    · by_cases hlt2 : k < len
      all_goals
        go_wp2_with fail
        refine (dKnown _).mono ?_
        rintro e w1 ⟨rfl, hb1⟩
        go_wp2_with fail
        go_ret
        exact ⟨rfl, tr hB hb1⟩
theorem wdogLocks (w : World) (cl tot : Int) (y : Option Addr) (len cap : Nat) (lk : Bool) (c0 : 0 ≤ cl) (c1 : cl < 4294967296) (t0 : 0 ≤ tot) (t1 : tot < 4294967296)
    (hy : len = 0 ∨ ∃ z off, ∃ zs : Nat → Int, y = some ⟨z, off, none⟩ ∧ len ≤ cap ∧ cap ≤ maxLen ∧ z < w.heap.size ∧ ∀ i, i < cap → w.cell? ⟨z, off + i, none⟩ = some (.int .u32 (zs i)) ∧ 0 ≤ zs i ∧ zs i < 4294967296) :
    Calls Try.prog 7 #[.int .u32 cl, .int .u32 tot, .bool lk, .slice y len cap] w fun e w' => e = .returned (.bool true) ∧ Below w.heap.size w w' := by
  cases lk
  · exact wdogLocksF w cl tot y len cap c0 c1 t0 t1 hy
  · exact wdogLocksT w cl tot y len cap c0 c1 t0 t1 hy
end Go.Proofs.Ytlgdlmhgifhchaa.B
